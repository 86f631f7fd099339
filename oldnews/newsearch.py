"""The states to which runs by old news lead."""

from oldnews.checks import as_state, check_limit
from oldnews.rows import replaced
from oldnews.searching import steps_from

# How many houses a web may have for a search through its runs.
MOST_OF_NEWS = 4


def reached_by_news(web, start):
    """Returns the states to which runs lead from the start, ascending.

    Raises BadState, TooLarge.
    """
    start = as_state(web.size, start)
    check_limit(web.size, MOST_OF_NEWS)
    # What can follow depends on the newest state and on the digits that each
    # lamp has had so far, and these are the marks of the join of all states.
    found = steps_from((start, start), lambda pair: after_one_look(web, pair[0], pair[1]))
    return tuple(sorted(set([state for state, shown in found])))


def after_one_look(web, state, shown):
    """Returns the pairs of the newest state and the join after one look that turns a lamp.

    Beats of one look are enough: the looks of a beat can as well be made one
    after another, with greater ages, since old states stay readable.
    """
    pairs = []
    for house, digit in enumerate(state):
        if web.tables[house].takes(shown, 1 - digit):
            pairs.append((replaced(state, house, 1 - digit), replaced(shown, house, 2)))
    return pairs
