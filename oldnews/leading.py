"""Fine runs from groups and from runs by old news, and runs by old news from fine runs."""

from oldnews.checks import as_group, as_state, check_limit, check_top
from oldnews.errors import BadLevels
from oldnews.fineruns import levels_along
from oldnews.levels import state_at
from oldnews.runs import changed_houses, run_states
from oldnews.serving import check_serving, goal_readings, served_run, turning_readings

# With the top 1 no level lies between off and on.
LEAST_TOP = 2

# The greatest top for which a fine run is made.
MOST_TOP = 32


def fine_run_by_group(web, top, start, goal, group):
    """Returns a fine run from the corner of the start to the corner of the goal.

    Raises BadTop, BadState, BadGroup, TooLarge, NotServing.
    """
    check_top(top, LEAST_TOP)
    start = as_state(web.size, start)
    goal = as_state(web.size, goal)
    group = as_group(web.size, group)
    check_limit(top, MOST_TOP)
    check_serving(web, start, goal, group)
    return served_fine_run(web, top, start, goal, group)


def fine_from_news(web, top, start, run):
    """Returns a fine run to the corner of the last state of the run.

    Raises BadTop, BadState, TooLarge, BadRun.
    """
    check_top(top, LEAST_TOP)
    start = as_state(web.size, start)
    check_limit(top, MOST_TOP)
    states = run_states(web, start, run)
    # The houses that change in a run become free about its start one after
    # another, and each of them has been set to its last digit. So they serve.
    return served_fine_run(web, top, start, states[-1], changed_houses(states))


def news_from_fine(web, top, start, run):
    """Returns a run to the state at whose corner the fine run ends.

    Raises BadTop, BadState, BadRun, BadLevels.
    """
    check_top(top, LEAST_TOP)
    start = as_state(web.size, start)
    levels = levels_along(web, top, start, run)[-1]
    goal = state_at(top, levels)
    if goal is None:
        raise BadLevels(levels)
    # The houses that move serve for the same reason as those of a run by old news.
    return served_run(web, start, goal, movers(run))


def movers(run):
    """Returns the group of the houses that move in the fine run."""
    return tuple(sorted(set([move[0] for moves in run for move in moves])))


def served_fine_run(web, top, start, goal, group):
    """Returns the fine run by a group that serves the start and the goal.

    First each house that becomes free leaves its corner, so that both of its
    digits can be read. A corner shows one digit only, so all of these houses
    reach their corners of the goal in the last beat, at the same time.
    """
    beats = [((house, step_to(1 - start[house]), digits),)
             for house, digits in turning_readings(web, start, group)]
    arrivals = tuple([(house, step_to(goal[house]), digits)
                      for house, digits in goal_readings(web, start, goal, group)])
    far = tuple([move for move in arrivals if goal[move[0]] != start[move[0]]])
    if len(far) > 0:
        beats.extend([far] * (top - 2))
    if len(arrivals) > 0:
        beats.append(arrivals)
    return tuple(beats)


def step_to(digit):
    """Returns the step towards the level of the digit."""
    if digit == 1:
        return 1
    return -1
