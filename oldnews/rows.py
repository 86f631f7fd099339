"""Rooms as rows of marks, and the states in them."""

from oldnews.checks import as_any_room, as_room, check_limit

# How many houses of a room may be free for states_of.
MOST_FREE = 8


def free_houses(room):
    """Returns the group of the free houses of the room. Raises BadRoom."""
    return free_in(as_any_room(room))


def states_of(room):
    """Returns the states of the room in ascending order. Raises BadRoom, TooLarge."""
    room = as_any_room(room)
    check_limit(len(free_in(room)), MOST_FREE)
    return tuple(states_in(room))


def lies_within(room, other):
    """Returns whether the room lies within the other one. Raises BadRoom."""
    room = as_any_room(room)
    return within(room, as_room(len(room), other))


def meet(first, *others):
    """Returns the meet of the rooms, or None if there is none. Raises BadRoom."""
    marks = [met_mark(column) for column in columns(checked_rooms(first, others))]
    if None in marks:
        return None
    return tuple(marks)


def join(first, *others):
    """Returns the join of the rooms. Raises BadRoom."""
    return joined(checked_rooms(first, others))


def checked_rooms(first, others):
    """Returns the rooms of one web of any size as a list of tuples. Raises BadRoom."""
    first = as_any_room(first)
    return [first] + [as_room(len(first), other) for other in others]


def columns(rooms):
    """Returns, for each house, the list of its marks in the rooms."""
    return [[room[house] for room in rooms] for house in range(len(rooms[0]))]


def met_mark(marks):
    """Returns the mark of a house in the meet of rooms with these marks, or None."""
    if 0 in marks and 1 in marks:
        return None
    return min(marks)


def joined_mark(marks):
    """Returns the mark of a house in the join of rooms with these marks."""
    if all(mark == marks[0] for mark in marks):
        return marks[0]
    return 2


def joined(rooms):
    """Returns the join of a list of one or more rooms, which are not checked."""
    return tuple([joined_mark(column) for column in columns(rooms)])


def free_in(room):
    """Returns the group of the free houses of a room that is not checked."""
    return tuple([house for house, mark in enumerate(room) if mark == 2])


def within(room, other):
    """Returns whether the room lies within the other one; they are not checked."""
    return all(there in (mark, 2) for mark, there in zip(room, other))


def digits_of(mark):
    """Returns the digits that a lamp with the mark has in the states of a room."""
    if mark == 2:
        return (0, 1)
    return (mark,)


def rows_over(choices):
    """Returns all rows with an item of each row of the choices, in ascending order."""
    rows = [()]
    for items in choices:
        rows = [row + (item,) for row in rows for item in items]
    return rows


def states_in(room):
    """Returns the list of the states of a room that is not checked, ascending."""
    return rows_over([digits_of(mark) for mark in room])


def digit_rows(count):
    """Returns the list of all rows of so many digits in ascending order."""
    return rows_over([(0, 1)] * count)


def replaced(row, place, item):
    """Returns the tuple with another item at the place."""
    return row[:place] + (item,) + row[place + 1:]
