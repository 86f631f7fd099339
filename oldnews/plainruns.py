"""Plain runs: groups look one after another, at the newest state."""

from oldnews.checks import as_groups, as_state, check_limit
from oldnews.runs import run_states

# How many houses a web may have for plain_round.
MOST_OF_ROUNDS = 6


def plain_run(web, groups):
    """Returns the plain run of the groups. Raises BadGroup."""
    return tuple([plain_beat(web, group) for group in as_groups(web.size, groups)])


def plain_states(web, start, groups):
    """Returns all states of the plain run from the start. Raises BadState, BadGroup."""
    start = as_state(web.size, start)
    return run_states(web, start, plain_run(web, groups))


def plain_round(web, start, groups):
    """Returns the tail and the cycle of the repeated plain run as a pair.

    Raises BadState, BadGroup, TooLarge.
    """
    state = as_state(web.size, start)
    run = plain_run(web, groups)
    check_limit(web.size, MOST_OF_ROUNDS)
    places = {}
    while state not in places:
        places[state] = len(places)
        state = run_states(web, state, run)[-1]
    states = list(places)
    first = places[state]
    return tuple(states[:first]), tuple(states[first:])


def plain_beat(web, group):
    """Returns the beat in which the houses of the group look with all ages 0."""
    return tuple([(house, (0,) * len(web.tables[house].heard)) for house in group])
