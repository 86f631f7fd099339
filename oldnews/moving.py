"""Which houses move on the way from a start to a goal."""

from oldnews.checks import all_houses, as_group, as_state, check_limit
from oldnews.reaching import check_reached, leads_within
from oldnews.searching import least_groups
from oldnews.striking import without

# How many houses a web may have for its groups to be gone through.
MOST_OF_MOVERS = 6


def reaches_within(web, start, goal, group):
    """Returns whether the start reaches the goal within the group. Raises BadState, BadGroup."""
    start = as_state(web.size, start)
    goal = as_state(web.size, goal)
    group = as_group(web.size, group)
    return leads_within(web, start, goal, group)


def must_move(web, start, goal):
    """Returns the group of the houses that must move. Raises BadState, NeverReached."""
    start = as_state(web.size, start)
    goal = as_state(web.size, goal)
    check_reached(web, start, goal)
    houses = all_houses(web.size)
    return tuple([house for house in houses
                  if not leads_within(web, start, goal, without(houses, (house,)))])


def fewest_movers(web, start, goal):
    """Returns the first of the least groups within which the start reaches the goal.

    Raises BadState, TooLarge, NeverReached.
    """
    start = as_state(web.size, start)
    goal = as_state(web.size, goal)
    check_limit(web.size, MOST_OF_MOVERS)
    check_reached(web, start, goal)
    found = least_groups(all_houses(web.size), lambda group: leads_within(web, start, goal, group))
    return found[0]
