"""The states to which runs lead in which no age is greater than a given one."""

from oldnews.checks import as_state, check_age, check_limit
from oldnews.rows import joined, rows_over
from oldnews.searching import steps_from

# How many houses a web may have for a search through its runs by ages.
MOST_OF_AGES = 3

# The greatest age for which such a search may be asked.
MOST_AGE = 3


def reached_by_age(web, start, age):
    """Returns the states to which runs with such ages lead, ascending.

    Raises BadState, BadAge, TooLarge.
    """
    start = as_state(web.size, start)
    check_age(age)
    check_age_limits(web, age)
    return tuple(sorted(beats_to_states(web, start, age)))


def fewest_beats(web, start, goal, age):
    """Returns the least number of beats of a run with such ages to the goal, or None.

    Raises BadState, BadAge, TooLarge.
    """
    start = as_state(web.size, start)
    goal = as_state(web.size, goal)
    check_age(age)
    check_age_limits(web, age)
    return beats_to_states(web, start, age).get(goal)


def youngest_age(web, start, goal):
    """Returns the least age with which the goal is reached, or None.

    Raises BadState, TooLarge.
    """
    start = as_state(web.size, start)
    goal = as_state(web.size, goal)
    check_limit(web.size, MOST_OF_AGES)
    # No age above the number of houses is of use.
    for age in range(web.size + 1):
        if goal in beats_to_states(web, start, age):
            return age
    return None


def check_age_limits(web, age):
    """Raises TooLarge if the web or the age is too large for a search."""
    check_limit(web.size, MOST_OF_AGES)
    check_limit(age, MOST_AGE)


def beats_to_states(web, start, age):
    """Returns a dict that has, for each state to which runs lead, the least number of beats."""
    # What can follow depends on the newest age + 1 states. Before these are
    # made, the start stands for the missing ones: no other digits can be read.
    windows = steps_from((start,) * (age + 1), lambda window: windows_after(web, window))
    counts = {}
    for window, count in windows.items():
        # The windows come in the order of their numbers of beats.
        counts.setdefault(window[-1], count)
    return counts


def windows_after(web, window):
    """Returns the list of the windows that a beat can make of this one."""
    shown = joined(window)
    choices = [lamps_after(web, shown, house, digit) for house, digit in enumerate(window[-1])]
    return [window[1:] + (state,) for state in rows_over(choices)]


def lamps_after(web, shown, house, digit):
    """Returns the digits that the lamp of the house can have after a beat."""
    if web.tables[house].takes(shown, 1 - digit):
        return (digit, 1 - digit)
    return (digit,)
