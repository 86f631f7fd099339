"""Groups that serve a start and a goal, and the runs by such groups."""

from oldnews.checks import as_group, as_state
from oldnews.errors import NotServing
from oldnews.leasts import freed_houses, least_about
from oldnews.rows import free_in, within
from oldnews.tables import readings


def serves(web, start, goal, group):
    """Returns whether the group serves the start and the goal. Raises BadState, BadGroup."""
    start = as_state(web.size, start)
    goal = as_state(web.size, goal)
    group = as_group(web.size, group)
    return is_served(web, start, goal, group)


def run_by_group(web, start, goal, group):
    """Returns a run from the start to the goal. Raises BadState, BadGroup, NotServing."""
    start = as_state(web.size, start)
    goal = as_state(web.size, goal)
    group = as_group(web.size, group)
    check_serving(web, start, goal, group)
    return served_run(web, start, goal, group)


def is_served(web, start, goal, group):
    """Returns whether the group serves the start and the goal; nothing is checked."""
    room = least_about(web, start, group)
    return within(goal, room) and len(unfit_houses(web, room, goal)) == 0


def check_serving(web, start, goal, group):
    """Raises NotServing if the group does not serve the start and the goal."""
    if not is_served(web, start, goal, group):
        raise NotServing("the group does not serve the start and the goal")


def unfit_houses(web, room, goal):
    """Returns the group of the free houses whose tables do not take their digits in the goal."""
    return tuple([house for house in free_in(room)
                  if not web.tables[house].takes(room, goal[house])])


def served_run(web, start, goal, group):
    """Returns the run by a group that serves the start and the goal."""
    beats = [(look_in(web, start, beat, house, digits),)
             for beat, (house, digits) in enumerate(turning_readings(web, start, group))]
    if len(beats) > 0:
        beats.append(tuple([look_in(web, start, len(beats), house, digits)
                            for house, digits in goal_readings(web, start, goal, group)]))
    return tuple(beats)


def look_in(web, start, beat, house, digits):
    """Returns the look by which the house reads the digits in the beat.

    Each lamp has been turned once at most, so that it has its digit of the
    start in the eldest state, and the other digit, if at all, in the newest one.
    """
    heard = web.tables[house].heard
    return (house, tuple([beat if digit == start[other] else 0
                          for other, digit in zip(heard, digits)]))


def turning_readings(web, start, group):
    """Returns the list of the houses of the group that become free about the start.

    Each stands with the digits that it can read of the start and of the houses
    before it, which are free then, and by which it turns its lamp.
    """
    marks = list(start)
    pairs = []
    for house in freed_houses(web, start, group):
        pairs.append((house, reading_for(web.tables[house], marks, 1 - start[house])))
        marks[house] = 2
    return pairs


def goal_readings(web, start, goal, group):
    """Returns the list of the same houses, ascending, each with digits that set it as in the goal.

    The group serves the start and the goal.
    """
    room = least_about(web, start, group)
    return [(house, reading_for(web.tables[house], room, goal[house])) for house in free_in(room)]


def reading_for(table, room, digit):
    """Returns digits that can be read in the room, for which a table that takes the digit has it."""
    return [digits for digits in readings(table.heard, room) if table.digit_for(digits) == digit][0]
