"""Levels of finer lamps, and the rooms that can be read in them."""

from oldnews.checks import as_any_levels, as_any_state, check_top


def corner(top, state):
    """Returns the corner of the state. Raises BadTop, BadState."""
    check_top(top, 1)
    return corner_of(top, as_any_state(state))


def reading_room(top, levels):
    """Returns the reading room of the levels. Raises BadTop, BadLevels."""
    check_top(top, 1)
    return readable(top, as_any_levels(top, levels))


def corner_state(top, levels):
    """Returns the state whose corner the levels are, or None. Raises BadTop, BadLevels."""
    check_top(top, 1)
    return state_at(top, as_any_levels(top, levels))


def corner_of(top, state):
    """Returns the corner of a state that is not checked."""
    return tuple([top * digit for digit in state])


def readable(top, levels):
    """Returns the reading room of levels that are not checked."""
    return tuple([mark_of(top, level) for level in levels])


def mark_of(top, level):
    """Returns the mark of a house with the level in the reading room."""
    if level == 0:
        return 0
    if level == top:
        return 1
    return 2


def state_at(top, levels):
    """Returns the state whose corner the levels are, or None; they are not checked."""
    room = readable(top, levels)
    if 2 in room:
        return None
    return room
