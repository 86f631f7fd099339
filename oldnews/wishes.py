"""Wishes: tables that the fates of a state are to keep at 1."""

from oldnews.checks import as_state
from oldnews.fates import fates_from
from oldnews.minimal import minimal_rooms
from oldnews.tables import table_of


def is_wish_sure(web, start, wish):
    """Returns whether the wish is sure for the state. Raises BadState, BadTable, TooLarge."""
    start = as_state(web.size, start)
    table = table_of(wish, web.size)
    return all(is_kept(table, fate) for fate in fates_from(web, start))


def is_wish_possible(web, start, wish):
    """Returns whether the wish is possible for the state. Raises BadState, BadTable, TooLarge."""
    start = as_state(web.size, start)
    table = table_of(wish, web.size)
    return any(is_kept(table, fate) for fate in fates_from(web, start))


def wish_ends(web, wish):
    """Returns the ends on which the wish is kept, ascending. Raises BadTable, TooLarge."""
    table = table_of(wish, web.size)
    return tuple([end for end in minimal_rooms(web) if is_kept(table, end)])


def is_kept(table, room):
    """Returns whether a wish with this table is kept on the room."""
    return not table.takes(room, 0)
