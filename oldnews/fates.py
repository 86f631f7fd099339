"""The fates of states: the ends that they reach."""

from oldnews.checks import all_houses, as_state, check_limit
from oldnews.leasts import least_about
from oldnews.minimal import minimal_inside, minimal_rooms
from oldnews.rows import columns, digit_rows, within

# How many houses a web may have for the fates of all its states.
MOST_OF_ALL_FATES = 5


def fates(web, start):
    """Returns the fates of the state in ascending order. Raises BadState, TooLarge."""
    return fates_from(web, as_state(web.size, start))


def is_decided(web, start):
    """Returns whether the state is decided. Raises BadState, TooLarge."""
    return len(fates(web, start)) == 1


def lamp_fates(web, start):
    """Returns the lamp fates of the state. Raises BadState, TooLarge."""
    return tuple([counts_of_marks(column) for column in columns(fates(web, start))])


def fates_of_all(web):
    """Returns the places of the fates of each state. Raises TooLarge."""
    check_limit(web.size, MOST_OF_ALL_FATES)
    ends = minimal_rooms(web)
    houses = all_houses(web.size)
    return tuple([places_within(ends, least_about(web, state, houses))
                  for state in digit_rows(web.size)])


def fates_from(web, start):
    """Returns the fates of a state that is not checked. Raises TooLarge."""
    return minimal_inside(web, least_about(web, start, all_houses(web.size)))


def counts_of_marks(marks):
    """Returns how many of the marks are 0, 1 and 2."""
    return tuple([marks.count(mark) for mark in (0, 1, 2)])


def places_within(ends, room):
    """Returns the places of those ends that lie within the room, ascending."""
    return tuple([place for place, end in enumerate(ends) if within(end, room)])
