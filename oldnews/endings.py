"""The ends of a web, and their states."""

from oldnews.checks import all_houses, as_state
from oldnews.leasts import least_about
from oldnews.minimal import is_minimal, minimal_rooms
from oldnews.rows import states_in


def end_of(web, state):
    """Returns the end that has the state, or None. Raises BadState, TooLarge."""
    state = as_state(web.size, state)
    # A minimal room is the least room about each of its states.
    room = least_about(web, state, all_houses(web.size))
    if is_minimal(web, room):
        return room
    return None


def end_states(web):
    """Returns the row of the states of each end, in the order of the ends. Raises TooLarge."""
    return tuple([tuple(states_in(end)) for end in minimal_rooms(web)])
