"""The least closed room about a room."""

from oldnews.checks import as_group_or_all, as_order, as_room
from oldnews.closing import loose_in


def least_room(web, room, *, group=None):
    """Returns the least room about the room for the group. Raises BadRoom, BadGroup."""
    room = as_room(web.size, room)
    houses = as_group_or_all(web.size, group)
    return least_about(web, room, houses)


def freeing_order(web, room, *, group=None, order=None):
    """Returns the freeing order. Raises BadRoom, BadGroup, BadOrder."""
    room = as_room(web.size, room)
    houses = as_group_or_all(web.size, group)
    if order is not None:
        order = as_order(web.size, order)
        houses = [house for house in order if house in houses]
    return tuple(freed_houses(web, room, houses))


def freed_houses(web, room, houses):
    """Returns the list of the houses that become free, each time the first loose one.

    The arguments are not checked, and the houses may have any order.
    """
    marks = list(room)
    freed = []
    loose = loose_in(web, marks, houses)
    while loose:
        marks[loose[0]] = 2
        freed.append(loose[0])
        loose = loose_in(web, marks, houses)
    return freed


def least_about(web, room, houses):
    """Returns the least room about the room for the houses; nothing is checked."""
    freed = freed_houses(web, room, houses)
    return tuple([2 if house in freed else mark for house, mark in enumerate(room)])
