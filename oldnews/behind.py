"""The closed rooms behind what is settled outside a group."""

from oldnews.checks import as_group, as_room, check_limit
from oldnews.closing import loose_in
from oldnews.minimal import is_innermost
from oldnews.rows import rows_over

# How many houses a group may have for the rooms behind a room to be listed.
MOST_BEHIND = 5


def closed_behind(web, room, group):
    """Returns the rooms behind the room, ascending. Raises BadRoom, BadGroup, TooLarge."""
    room = as_room(web.size, room)
    group = as_group(web.size, group)
    check_limit(len(group), MOST_BEHIND)
    choices = [(0, 1, 2) if house in group else (mark,) for house, mark in enumerate(room)]
    return tuple([other for other in rows_over(choices) if len(loose_in(web, other, group)) == 0])


def minimal_behind(web, room, group):
    """Returns the innermost of the rooms behind the room, ascending.

    Raises BadRoom, BadGroup, TooLarge.
    """
    found = closed_behind(web, room, group)
    return tuple([other for other in found if is_innermost(other, found)])
