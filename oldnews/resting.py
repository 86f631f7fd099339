"""Rests and image rooms."""

from oldnews.checks import as_room, check_limit
from oldnews.rows import digit_rows
from oldnews.webs import image_in

# How many houses a web may have for its rests to be searched.
MOST_OF_RESTS = 6


def rests(web):
    """Returns the rests of the web in ascending order. Raises TooLarge."""
    check_limit(web.size, MOST_OF_RESTS)
    return tuple([state for state in digit_rows(web.size) if image_in(web, state) == state])


def image_room(web, room):
    """Returns the image room of the room. Raises BadRoom."""
    room = as_room(web.size, room)
    return tuple([image_mark(table, room) for table in web.tables])


def image_mark(table, room):
    """Returns the mark of a house with the table in the image room."""
    if not table.takes(room, 0):
        return 1
    if not table.takes(room, 1):
        return 0
    return 2
