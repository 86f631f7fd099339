"""States that can meet, and groups that tell fates apart."""

from itertools import combinations

from oldnews.checks import as_state
from oldnews.fates import fates_from
from oldnews.rows import free_in, joined
from oldnews.searching import least_groups


def can_meet(web, state, other):
    """Returns whether the two states can meet. Raises BadState, TooLarge."""
    state = as_state(web.size, state)
    other = as_state(web.size, other)
    ends = fates_from(web, state)
    others = fates_from(web, other)
    return any(end in others for end in ends)


def telling_groups(web, start):
    """Returns the least groups that tell the fates of the state apart, ascending.

    Raises BadState, TooLarge.
    """
    ends = fates_from(web, as_state(web.size, start))
    # A house that is fixed at the same digit in all fates is of no use.
    houses = free_in(joined(ends))
    return least_groups(houses, lambda group: tells_all_apart(ends, group))


def tells_all_apart(ends, group):
    """Returns whether any two of the ends are fixed at different digits at a house of the group."""
    return all([tells_apart(end, other, group) for end, other in combinations(ends, 2)])


def tells_apart(end, other, group):
    """Returns whether the two ends are fixed at different digits at a house of the group."""
    return any((end[house], other[house]) in ((0, 1), (1, 0)) for house in group)
