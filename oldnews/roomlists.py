"""Lists of closed rooms."""

from oldnews.checks import all_houses, as_room, check_limit
from oldnews.closing import loose_in
from oldnews.rows import free_in, rows_over, within

# How many houses a web may have for its closed rooms to be listed.
MOST_OF_LISTS = 5


def closed_rooms(web):
    """Yields the closed rooms of the web in ascending order. Raises TooLarge."""
    check_limit(web.size, MOST_OF_LISTS)
    for room in all_rooms(web.size):
        if has_no_loose(web, room):
            yield room


def closed_about(web, room):
    """Returns the closed rooms about the room, ascending. Raises BadRoom, TooLarge."""
    room = as_room(web.size, room)
    return tuple([other for other in listed_rooms(web) if within(room, other)])


def closed_inside(web, room):
    """Returns the closed rooms within the room, ascending. Raises BadRoom, TooLarge."""
    room = as_room(web.size, room)
    return tuple([other for other in listed_rooms(web) if within(other, room)])


def room_counts(web):
    """Returns how many closed rooms there are for each number of free houses. Raises TooLarge."""
    counts = [0] * (web.size + 1)
    for room in listed_rooms(web):
        counts[len(free_in(room))] += 1
    return tuple(counts)


def listed_rooms(web):
    """Returns the list of the closed rooms of the web in ascending order. Raises TooLarge."""
    return list(closed_rooms(web))


def all_rooms(size):
    """Returns the list of all rooms of a web of so many houses in ascending order."""
    return rows_over([(0, 1, 2)] * size)


def has_no_loose(web, room):
    """Returns whether a room that is not checked is closed."""
    return len(loose_in(web, room, all_houses(web.size))) == 0
