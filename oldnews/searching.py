"""Searches that several files need: what can follow, closed lots, and least groups."""

from itertools import combinations


def steps_from(first, following):
    """Returns a dict that has, for each item to which steps lead, the least number of steps.

    `following` gives the row of the items that can follow an item in one step.
    """
    counts = {first: 0}
    newest = [first]
    while newest:
        further = []
        # A copy is walked, since the list that this loop fills is the next one to be walked.
        for item in list(newest):
            for after in following(item):
                if after not in counts:
                    counts[after] = counts[item] + 1
                    further.append(after)
        newest = further
    return counts


def lots_in(reached):
    """Returns the closed lots in ascending order.

    The dict `reached` has, for each state, the row of the states that it reaches.
    """
    return tuple(sorted(set([row for row in reached.values()
                             if all(reached[state] == row for state in row)])))


def least_groups(houses, suits):
    """Returns, in ascending order, the groups of the houses with as few houses as possible.

    Only those groups count for which the function `suits` returns True.
    """
    for count in range(len(houses) + 1):
        found = [group for group in combinations(houses, count) if suits(group)]
        if found:
            return tuple(found)
    return ()
