"""Fates and wishes, found by what each state reaches."""

from oldnews.checks import as_state
from oldnews.endsearch import reached_from_all
from oldnews.searching import lots_in
from oldnews.tables import table_of


def fates_by_search(web, start):
    """Returns the closed lots whose states the start reaches. Raises BadState, TooLarge."""
    start = as_state(web.size, start)
    reached = reached_from_all(web)
    return tuple([lot for lot in lots_in(reached)
                  if all(state in reached[start] for state in lot)])


def wish_sure_by_search(web, start, wish):
    """Returns whether the wish is sure by search. Raises BadState, BadTable, TooLarge."""
    start = as_state(web.size, start)
    table = table_of(wish, web.size)
    reached = reached_from_all(web)
    return all(comes_true(table, reached, state) for state in reached[start])


def wish_possible_by_search(web, start, wish):
    """Returns whether the wish is possible by search. Raises BadState, BadTable, TooLarge."""
    start = as_state(web.size, start)
    table = table_of(wish, web.size)
    return comes_true(table, reached_from_all(web), start)


def comes_true(table, reached, state):
    """Returns whether the state reaches one from which the table has the digit 1 for good."""
    return any(is_settled(table, reached, other) for other in reached[state])


def is_settled(table, reached, state):
    """Returns whether the table has the digit 1 at all states that the state reaches."""
    return all(table.value(other) == 1 for other in reached[state])
