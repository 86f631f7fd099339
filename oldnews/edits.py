"""Edits of a web with names and a hold, and webs that agree on a room."""

from oldnews.checks import as_hold, as_names, as_room, check_digit, check_house
from oldnews.errors import BadEdit, NotHeld
from oldnews.rows import replaced, states_in
from oldnews.tables import table_of

KINDS = ("table", "hold", "release", "rename")


def edited(names, web, hold, edit):
    """Returns the names, the web and the hold after the edit.

    Raises BadNames, BadHold, BadEdit, BadHouse, BadTable, BadDigit, NotHeld.
    """
    names = as_names(web.size, names)
    hold = as_hold(web.size, hold)
    return after_edit(names, web, hold, as_edit(web.size, edit))


def agree_on(web, other, room):
    """Returns whether the two webs agree on the room, a room of the first one. Raises BadRoom."""
    return agreeing(web, other, as_room(web.size, room))


def agreeing(web, other, room):
    """Returns whether the two webs agree on a room that is not checked."""
    if web.size != other.size:
        return False
    return all(agree_in(table, second, room) for table, second in zip(web.tables, other.tables))


def agree_in(table, other, room):
    """Returns whether the two tables have the same digit at each state of the room."""
    if table.as_row() == other.as_row():
        return True
    # The lamps that neither table hears do not matter; fixed, they make no further states.
    heard = table.heard + other.heard
    fewer = [mark if house in heard else 0 for house, mark in enumerate(room)]
    return all(table.value(state) == other.value(state) for state in states_in(fewer))


def as_edit(size, edit):
    """Returns the edit as a tuple, in which a table row is a tuple of tuples.

    Raises BadEdit, BadHouse, BadTable, BadDigit.
    """
    kind = edit[0]
    if kind not in KINDS:
        raise BadEdit(kind)
    check_house(size, edit[1])
    if kind == "table":
        return (kind, edit[1], table_of(edit[2], size).as_row())
    if kind == "hold":
        check_digit(edit[2])
    return tuple(edit)


def after_edit(names, web, hold, edit):
    """Returns the names, the web and the hold after an edit that as_edit gave.

    Raises NotHeld, BadNames.
    """
    kind, house = edit[:2]
    if kind == "table":
        return names, web.with_table(house, edit[2]), hold
    if kind == "hold":
        return names, web, without_house(hold, house, ((house, edit[2]),))
    if kind == "release":
        if house not in [held for held, digit in hold]:
            raise NotHeld(house)
        return names, web, without_house(hold, house, ())
    return as_names(web.size, replaced(names, house, edit[2])), web, hold


def without_house(hold, house, pairs):
    """Returns the hold without the house and with the pairs."""
    return tuple(sorted([pair for pair in hold if pair[0] != house] + list(pairs)))
