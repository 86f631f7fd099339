"""Fine runs: lamps that go from level to level."""

from oldnews.checks import as_state, check_top
from oldnews.errors import BadRun
from oldnews.levels import corner_of, readable
from oldnews.rows import digits_of


def fine_states(web, top, start, run):
    """Returns the levels at the start and after each beat. Raises BadTop, BadState, BadRun."""
    check_top(top, 1)
    start = as_state(web.size, start)
    return levels_along(web, top, start, run)


def levels_along(web, top, start, run):
    """Returns the row of the levels along the fine run; only the run is checked.

    Raises BadRun.
    """
    levels = corner_of(top, start)
    rows = [levels]
    for beat, moves in enumerate(run):
        levels = levels_after(web, top, levels, beat, moves)
        rows.append(levels)
    return tuple(rows)


def levels_after(web, top, levels, beat, moves):
    """Returns the levels after the fine beat with this number. Raises BadRun."""
    after = list(levels)
    last = -1
    for place, move in enumerate(moves):
        house, step, _ = move
        if house <= last or not is_good(web, top, levels, move):
            raise BadRun(beat, place)
        after[house] = levels[house] + step
        last = house
    return tuple(after)


def is_good(web, top, levels, move):
    """Returns whether the move is good as the first one of its beat."""
    house, step, digits = move
    if not 0 <= house < web.size or step not in (1, -1):
        return False
    if not 0 <= levels[house] + step <= top:
        return False
    table = web.tables[house]
    if not can_read(readable(top, levels), table.heard, digits):
        return False
    return table.digit_for(digits) == digit_of_step(step)


def can_read(room, heard, digits):
    """Returns whether the digits can be read of the heard houses in the reading room."""
    if len(digits) != len(heard):
        return False
    return all(digit in digits_of(room[house]) for house, digit in zip(heard, digits))


def digit_of_step(step):
    """Returns the digit to which a table has to set a lamp for the step."""
    if step == 1:
        return 1
    return 0
