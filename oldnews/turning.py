"""Rooms and webs turned at a group."""

from oldnews.checks import as_any_room, as_group
from oldnews.rows import digit_rows
from oldnews.webs import Web


def turned_row(row, group):
    """Returns the room turned at the group. Raises BadRoom, BadGroup."""
    row = as_any_room(row)
    group = as_group(len(row), group)
    return tuple([turned_mark(mark) if house in group else mark
                  for house, mark in enumerate(row)])


def turned_web(web, group):
    """Returns the web turned at the group. Raises BadGroup."""
    group = as_group(web.size, group)
    return Web([turned_table(web.tables[house], group, house in group)
                for house in range(web.size)])


def turned_mark(mark):
    """Returns the mark of a turned house."""
    if mark == 2:
        return 2
    return 1 - mark


def turned_table(table, group, turns):
    """Returns the table row that reads turned lamps of the group.

    Its digits are turned, too, if `turns` is True.
    """
    bits = []
    for digits in digit_rows(len(table.heard)):
        bit = table.digit_for([1 - digit if house in group else digit
                               for house, digit in zip(table.heard, digits)])
        bits.append(1 - bit if turns else bit)
    return ("rows", table.heard, tuple(bits))
