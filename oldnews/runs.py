"""Runs by old news."""

from oldnews.checks import as_any_states, as_state
from oldnews.looks import state_after
from oldnews.rows import free_in, joined


def run_states(web, start, run):
    """Returns all states of the run from the start. Raises BadState, BadRun."""
    states = [as_state(web.size, start)]
    for beat in run:
        states.append(state_after(web, states, beat))
    return tuple(states)


def eldest_age(run):
    """Returns the greatest age in the run, or 0 if there are no ages."""
    ages = [age for beat in run for look in beat for age in look[1]]
    return max(ages, default=0)


def changed_houses(states):
    """Returns the group of the houses whose digits differ in the states. Raises BadState."""
    return free_in(joined(as_any_states(states)))
