"""Minimal rooms."""

from oldnews.checks import all_houses, as_room, check_limit
from oldnews.leasts import least_about
from oldnews.rows import free_in, states_in, within

# How many houses of a web, or free houses of a room, may be gone through.
MOST_OF_MINIMAL = 6


def minimal_rooms(web):
    """Returns the minimal rooms of the web in ascending order. Raises TooLarge."""
    check_limit(web.size, MOST_OF_MINIMAL)
    return minimal_within(web, (2,) * web.size)


def minimal_inside(web, room):
    """Returns the minimal rooms that lie within the room, ascending. Raises BadRoom, TooLarge."""
    room = as_room(web.size, room)
    check_limit(len(free_in(room)), MOST_OF_MINIMAL)
    return minimal_within(web, room)


def is_minimal(web, room):
    """Returns whether the room is minimal. Raises BadRoom, TooLarge."""
    room = as_room(web.size, room)
    check_limit(len(free_in(room)), MOST_OF_MINIMAL)
    houses = all_houses(web.size)
    return all(least_about(web, state, houses) == room for state in states_in(room))


def minimal_within(web, room):
    """Returns the minimal rooms that lie within a room that is not checked, ascending."""
    found = least_rooms_within(web, room)
    return tuple([least for least in found if is_innermost(least, found)])


def is_innermost(room, rooms):
    """Returns whether no other one of the rooms lies within the room."""
    return not any(other != room and within(other, room) for other in rooms)


def least_rooms_within(web, room):
    """Returns the least rooms about states of the room that lie within it, ascending.

    Each minimal room within the room is among them, since it is the least room
    about each of its states. So one of them is minimal if no other lies within it.
    """
    houses = all_houses(web.size)
    rooms = [least_about(web, state, houses) for state in states_in(room)]
    return sorted(set([least for least in rooms if within(least, room)]))
