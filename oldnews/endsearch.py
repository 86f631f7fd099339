"""Closed lots and slow lots, found by what each state leads to."""

from oldnews.checks import check_limit
from oldnews.newsearch import MOST_OF_NEWS, reached_by_news
from oldnews.rows import digit_rows, replaced
from oldnews.searching import lots_in, steps_from

# How many houses a web may have for its slow lots to be searched.
MOST_OF_SLOW = 5


def closed_lots(web):
    """Returns the closed lots in ascending order. Raises TooLarge."""
    return lots_in(reached_from_all(web))


def slow_lots(web):
    """Returns the slow lots in ascending order. Raises TooLarge."""
    check_limit(web.size, MOST_OF_SLOW)
    return lots_in({state: reached_slowly(web, state) for state in digit_rows(web.size)})


def reached_from_all(web):
    """Returns a dict that has, for each state, the row of the states to which runs lead from it.

    Raises TooLarge.
    """
    check_limit(web.size, MOST_OF_NEWS)
    return {state: reached_by_news(web, state) for state in digit_rows(web.size)}


def reached_slowly(web, state):
    """Returns the states to which slow steps lead from a state that is not checked, ascending."""
    return tuple(sorted(steps_from(state, lambda newest: after_slow_steps(web, newest))))


def after_slow_steps(web, state):
    """Returns the list of the states to which the slow steps of the houses lead."""
    return [replaced(state, house, table.value(state)) for house, table in enumerate(web.tables)]
