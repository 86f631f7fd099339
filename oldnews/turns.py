"""Holds in turn, and where they lead."""

from oldnews.checks import as_hold, as_room, as_state, check_limit
from oldnews.leastholds import MOST_OF_HOLDS
from oldnews.rows import states_in
from oldnews.showing import ends_under


def held_fates(web, start, hold):
    """Returns the ends under the hold with the start, ascending.

    Raises BadState, BadHold, TooLarge.
    """
    start = as_state(web.size, start)
    hold = as_hold(web.size, hold)
    check_limit(web.size, MOST_OF_HOLDS)
    return ends_under(web, hold, start)


def fates_after(web, start, *holds):
    """Returns the fates after the holds in turn, ascending. Raises BadState, BadHold, TooLarge."""
    start = as_state(web.size, start)
    return ends_in_turn(web, start, [as_hold(web.size, hold) for hold in holds])


def can_steer(web, start, end, *holds):
    """Returns whether the room is the only fate after the holds in turn.

    Raises BadState, BadRoom, BadHold, TooLarge.
    """
    start = as_state(web.size, start)
    end = as_room(web.size, end)
    found = ends_in_turn(web, start, [as_hold(web.size, hold) for hold in holds])
    return found == (end,)


def ends_in_turn(web, start, holds):
    """Returns the fates after the holds in turn; they and the start are not checked.

    Raises TooLarge.
    """
    check_limit(web.size, MOST_OF_HOLDS)
    states = [start]
    for hold in holds:
        states = [state for end in ends_from(web, states, hold) for state in states_in(end)]
    return tuple(ends_from(web, states, ()))


def ends_from(web, states, hold):
    """Returns the list of the ends under the hold with one of the states as start, ascending."""
    return sorted(set([end for state in states for end in ends_under(web, hold, state)]))
