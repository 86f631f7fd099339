"""The states that are finely reached."""

from oldnews.checks import as_state, check_limit, check_top
from oldnews.levels import corner_of, readable, state_at
from oldnews.rows import digit_rows, replaced, rows_over
from oldnews.searching import lots_in, steps_from

# How many rows of levels there may be for a search through all fine runs.
MOST_LEVELS = 128


def fine_reached(web, top, start):
    """Returns the states that are finely reached from the start, ascending.

    Raises BadTop, BadState, TooLarge.
    """
    check_top(top, 1)
    start = as_state(web.size, start)
    check_level_limit(web, top)
    return corners_from(top, start, lambda levels: after_beat(web, top, levels))


def fine_reached_singly(web, top, start):
    """Returns the states that are finely reached by single moves, ascending.

    Raises BadTop, BadState, TooLarge.
    """
    check_top(top, 1)
    start = as_state(web.size, start)
    check_level_limit(web, top)
    return corners_from(top, start, lambda levels: after_move(web, top, levels))


def fine_lots(web, top):
    """Returns the closed lots for the top in ascending order. Raises BadTop, TooLarge."""
    check_top(top, 1)
    check_level_limit(web, top)
    # Many starts lead through the same levels, so what follows is found once.
    rows = rows_over([tuple(range(top + 1))] * web.size)
    after = {levels: after_beat(web, top, levels) for levels in rows}
    return lots_in({state: corners_from(top, state, lambda levels: after[levels])
                    for state in digit_rows(web.size)})


def check_level_limit(web, top):
    """Raises TooLarge if there are too many rows of levels."""
    count = 1
    for _ in range(web.size):
        count = count * (top + 1)
    check_limit(count, MOST_LEVELS)


def corners_from(top, start, following):
    """Returns the states, ascending, to whose corners the steps of `following` lead."""
    found = [state_at(top, levels) for levels in steps_from(corner_of(top, start), following)]
    return tuple(sorted([state for state in found if state is not None]))


def after_beat(web, top, levels):
    """Returns the list of the levels that one fine beat can make of these."""
    return rows_over(choices_at(web, top, levels))


def after_move(web, top, levels):
    """Returns the list of the levels that a fine beat of one move at most can make of these."""
    return [replaced(levels, house, level)
            for house, choices in enumerate(choices_at(web, top, levels)) for level in choices]


def choices_at(web, top, levels):
    """Returns, for each house, the list of the levels that it can have after a fine beat."""
    room = readable(top, levels)
    return [[level] + levels_next(web.tables[house], room, top, level)
            for house, level in enumerate(levels)]


def levels_next(table, room, top, level):
    """Returns the list of the levels to which a house with the table can move in one step."""
    found = []
    if level < top and table.takes(room, 1):
        found.append(level + 1)
    if level > 0 and table.takes(room, 0):
        found.append(level - 1)
    return found
