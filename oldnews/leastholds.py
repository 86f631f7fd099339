"""The least holds under which all ends show what is to be shown."""

from itertools import combinations

from oldnews.checks import all_houses, as_group, as_hold, as_start, check_limit
from oldnews.rows import digit_rows
from oldnews.showing import first_failing

# How many houses a web may have for its holds to be gone through.
MOST_OF_HOLDS = 4


def holds_of(web, group, count):
    """Returns the holds with `count` houses of the group, ascending. Raises BadGroup, TooLarge."""
    group = as_group(web.size, group)
    check_limit(web.size, MOST_OF_HOLDS)
    if not 0 <= count <= len(group):
        return ()
    return tuple(holds_with(group, count))


def least_holds(web, shown, *, start=None, group=None, most=2):
    """Returns the least holds under which all ends show `shown`, ascending.

    Raises BadHold, BadState, BadGroup, TooLarge.
    """
    shown = as_hold(web.size, shown)
    start = as_start(web.size, start)
    houses = houses_to_hold(web, shown, group)
    check_limit(web.size, MOST_OF_HOLDS)
    for count in range(min(most, len(houses)) + 1):
        found = [hold for hold in holds_with(houses, count)
                 if first_failing(web, hold, shown, start) is None]
        if found:
            return tuple(found)
    return ()


def why_not(web, shown, hold, *, start=None):
    """Returns, for each pair of the hold, the failing end without it, or None.

    Raises BadHold, BadState, TooLarge.
    """
    shown = as_hold(web.size, shown)
    hold = as_hold(web.size, hold)
    start = as_start(web.size, start)
    check_limit(web.size, MOST_OF_HOLDS)
    return tuple([first_failing(web, hold[:place] + hold[place + 1:], shown, start)
                  for place in range(len(hold))])


def holds_with(houses, count):
    """Returns the list of the holds with so many of the houses, ascending."""
    return sorted([tuple(zip(held, digits)) for held in combinations(houses, count)
                   for digits in digit_rows(count)])


def houses_to_hold(web, shown, group):
    """Returns the group as a tuple; None stands for the houses that are not to be shown.

    Raises BadGroup.
    """
    if group is not None:
        return as_group(web.size, group)
    asked = [house for house, digit in shown]
    return tuple([house for house in all_houses(web.size) if house not in asked])
