"""What is certain of tables that nobody told."""

from oldnews.checks import all_houses, as_room, as_state, check_limit
from oldnews.extremes import digits_between, extreme_of, extreme_rows
from oldnews.leasts import least_about
from oldnews.records import as_seen, check_quarrels
from oldnews.roomlists import has_no_loose
from oldnews.rows import free_in, states_in
from oldnews.signed import as_signs

# How many houses of a room may be free for its states to be gone through.
MOST_OF_SURELY = 5


def rest_certainty(signs, seen, state):
    """Returns the certainty that the state is a rest.

    Raises BadSize, BadSigns, BadSighting, BadState, Quarrel.
    """
    signs = as_signs(signs)
    seen = as_seen(signs, seen)
    state = as_state(len(signs), state)
    check_quarrels(signs, seen)
    # A state is a rest exactly if it is closed as a room.
    return certainty_of(extreme_rows(signs, seen), state)


def closed_certainty(signs, seen, room):
    """Returns the certainty that the room is closed.

    Raises BadSize, BadSigns, BadSighting, BadRoom, Quarrel.
    """
    signs = as_signs(signs)
    seen = as_seen(signs, seen)
    room = as_room(len(signs), room)
    check_quarrels(signs, seen)
    return certainty_of(extreme_rows(signs, seen), room)


def digit_certainty(signs, seen, house, state):
    """Returns the certainty that the house has one digit at the state.

    Raises BadSize, BadSigns, BadSighting, BadHouse, BadState, Quarrel.
    """
    least, greatest = digits_between(signs, seen, house, state)
    return "surely" if least == greatest else "possibly"


def inner_room(signs, seen, start):
    """Returns the inner room of the state.

    Raises BadSize, BadSigns, BadSighting, BadState, Quarrel.
    """
    web = inner_fit(signs, seen, start)
    return least_about(web, tuple(start), all_houses(web.size))


def outer_room(signs, seen, start):
    """Returns the outer room of the state.

    Raises BadSize, BadSigns, BadSighting, BadState, Quarrel.
    """
    web = outer_fit(signs, seen, start)
    return least_about(web, tuple(start), all_houses(web.size))


def inner_fit(signs, seen, start):
    """Returns the web that fits in which the least room about the state is the inner room.

    Raises BadSize, BadSigns, BadSighting, BadState, Quarrel.
    """
    return fit_by_lamps(signs, seen, start, 1)


def outer_fit(signs, seen, start):
    """Returns the web that fits in which the least room about the state is the outer room.

    Raises BadSize, BadSigns, BadSighting, BadState, Quarrel.
    """
    return fit_by_lamps(signs, seen, start, 0)


def is_surely_minimal(signs, seen, room):
    """Returns whether the room is minimal in all webs that fit.

    Raises BadSize, BadSigns, BadSighting, BadRoom, TooLarge, Quarrel.
    """
    signs = as_signs(signs)
    seen = as_seen(signs, seen)
    room = as_room(len(signs), room)
    check_limit(len(free_in(room)), MOST_OF_SURELY)
    check_quarrels(signs, seen)
    pairs = extreme_rows(signs, seen)
    if certainty_of(pairs, room) != "surely":
        return False
    houses = all_houses(len(signs))
    return all(least_about(extreme_of(pairs, marked(state, 1)), state, houses) == room
               for state in states_in(room))


def marked(room, mark):
    """Returns the group of the houses that have the mark in the room."""
    return tuple([house for house, other in enumerate(room) if other == mark])


def certainty_of(pairs, room):
    """Returns the certainty that the room is closed, from the pairs of extreme_rows."""
    if has_no_loose(extreme_of(pairs, marked(room, 0)), room):
        return "surely"
    if has_no_loose(extreme_of(pairs, marked(room, 1)), room):
        return "possibly"
    return "never"


def fit_by_lamps(signs, seen, start, digit):
    """Returns the web with the greatest digits where the lamps of the start have the digit.

    Raises BadSize, BadSigns, BadSighting, BadState, Quarrel.
    """
    signs = as_signs(signs)
    seen = as_seen(signs, seen)
    start = as_state(len(signs), start)
    check_quarrels(signs, seen)
    return extreme_of(extreme_rows(signs, seen), marked(start, digit))
