"""Rows and webs with new house numbers."""

from oldnews.checks import as_any_order, as_group, as_order, as_room
from oldnews.rows import digit_rows
from oldnews.tables import RowsTable
from oldnews.webs import Web


def inverse_order(order):
    """Returns the inverse of the order. Raises BadOrder."""
    return inverse_of(as_any_order(order))


def reordered_row(order, row):
    """Returns the room reordered by the order. Raises BadOrder, BadRoom."""
    order = as_any_order(order)
    row = as_room(len(order), row)
    return tuple([row[house] for house in order])


def reordered_group(order, group):
    """Returns the group reordered by the order. Raises BadOrder, BadGroup."""
    order = as_any_order(order)
    group = as_group(len(order), group)
    return renumbered(group, inverse_of(order))


def reordered_web(order, web):
    """Returns the web reordered by the order. Raises BadOrder."""
    order = as_order(web.size, order)
    numbers = inverse_of(order)
    return Web([renamed_row(web.tables[house], numbers) for house in order])


def inverse_of(order):
    """Returns the inverse of an order that is not checked."""
    return tuple([order.index(house) for house in range(len(order))])


def renumbered(group, numbers):
    """Returns the group of the new numbers, where item k of `numbers` is the one of house k."""
    return tuple(sorted([numbers[house] for house in group]))


def renamed_row(table, numbers):
    """Returns the table row in which each heard house k is house `numbers[k]`.

    All of it is arranged as a table row has to be for the new numbers.
    """
    if isinstance(table, RowsTable):
        heard = renumbered(table.heard, numbers)
        return ("rows", heard, renamed_bits(table, heard, numbers))
    hearings = tuple(sorted([(numbers[house], sign) for house, sign in table.hearings]))
    return ("terms", hearings, tuple(sorted([renumbered(term, numbers) for term in table.terms])))


def renamed_bits(table, heard, numbers):
    """Returns the bits of the table for the new heard houses in ascending order."""
    bits = []
    for digits in digit_rows(len(heard)):
        lamps = dict(zip(heard, digits))
        bits.append(table.digit_for([lamps[numbers[house]] for house in table.heard]))
    return tuple(bits)
