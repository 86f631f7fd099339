"""Minimal rooms."""

from oldnews.checks import all_houses, as_room, check_limit
from oldnews.leasts import least_about
from oldnews.rows import digits_of, free_in, rows_over, states_in, within

# How many houses of a web, or free houses of a room, may be gone through.
MOST_OF_MINIMAL = 6


def minimal_rooms(web):
    """Returns the minimal rooms of the web in ascending order. Raises TooLarge."""
    check_limit(web.size, MOST_OF_MINIMAL)
    return minimal_within(web, (2,) * web.size, all_houses(web.size))


def minimal_inside(web, room):
    """Returns the minimal rooms that lie within the room, ascending. Raises BadRoom, TooLarge."""
    room = as_room(web.size, room)
    check_limit(len(free_in(room)), MOST_OF_MINIMAL)
    return minimal_within(web, room, all_houses(web.size))


def is_minimal(web, room):
    """Returns whether the room is minimal. Raises BadRoom, TooLarge."""
    room = as_room(web.size, room)
    check_limit(len(free_in(room)), MOST_OF_MINIMAL)
    houses = all_houses(web.size)
    return all(least_about(web, state, houses) == room for state in states_in(room))


def minimal_within(web, room, houses):
    """Returns the innermost of the rooms within the room that are closed for the houses, ascending.

    Outside the houses these rooms have the marks of the room. Nothing is checked.
    """
    found = least_rooms_within(web, room, houses)
    return tuple([least for least in found if is_innermost(least, found)])


def is_innermost(room, rooms):
    """Returns whether no other one of the rooms lies within the room."""
    return not any(other != room and within(other, room) for other in rooms)


def least_rooms_within(web, room, houses):
    """Returns the least rooms for the houses that lie within the room, ascending.

    They are about the rooms in which each of the houses is fixed. Each room that
    is innermost is among them, since it is the least one about any such room
    within it. So one of them is innermost if no other one lies within it.
    """
    choices = [digits_of(mark) if house in houses else (mark,) for house, mark in enumerate(room)]
    rooms = [least_about(web, other, houses) for other in rows_over(choices)]
    return sorted(set([least for least in rooms if within(least, room)]))
