"""Whether a start reaches a goal, and by which run."""

from oldnews.checks import all_houses, as_state, check_limit
from oldnews.errors import NeverReached
from oldnews.rows import digit_rows, within
from oldnews.serving import served_run
from oldnews.striking import rounds_within

# How many houses a web may have for the states that a start reaches to be listed.
MOST_OF_REACHED = 5


def reaches(web, start, goal):
    """Returns whether the start reaches the goal. Raises BadState."""
    start = as_state(web.size, start)
    goal = as_state(web.size, goal)
    return leads_within(web, start, goal, all_houses(web.size))


def reached(web, start):
    """Returns the states that the start reaches, ascending. Raises BadState, TooLarge."""
    start = as_state(web.size, start)
    check_limit(web.size, MOST_OF_REACHED)
    houses = all_houses(web.size)
    return tuple([goal for goal in digit_rows(web.size) if leads_within(web, start, goal, houses)])


def reach_run(web, start, goal):
    """Returns a run from the start to the goal. Raises BadState, NeverReached."""
    start = as_state(web.size, start)
    goal = as_state(web.size, goal)
    check_reached(web, start, goal)
    # The group of the last round serves the start and a goal that is reached.
    last = rounds_within(web, start, goal, all_houses(web.size))[-1]
    return served_run(web, start, goal, last[0])


def leads_within(web, start, goal, group):
    """Returns whether the start reaches the goal within the group; nothing is checked."""
    return within(goal, rounds_within(web, start, goal, group)[-1][1])


def check_reached(web, start, goal):
    """Raises NeverReached if the start does not reach the goal; the states are not checked."""
    if not leads_within(web, start, goal, all_houses(web.size)):
        raise NeverReached("the start does not reach the goal")
