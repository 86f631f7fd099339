"""Holds: houses whose lamps are held at a digit."""

from oldnews.checks import as_any_room, as_group, as_hold
from oldnews.webs import Web


def held_web(web, hold):
    """Returns the held web. Raises BadHold."""
    return web_under(web, as_hold(web.size, hold))


def held_row(row, hold):
    """Returns the held row of the room. Raises BadRoom, BadHold."""
    row = as_any_room(row)
    return row_under(row, as_hold(len(row), hold))


def hold_of(room, group):
    """Returns the hold of those houses of the group that are fixed. Raises BadRoom, BadGroup."""
    room = as_any_room(room)
    group = as_group(len(room), group)
    return tuple([(house, room[house]) for house in group if room[house] != 2])


def shows(room, shown):
    """Returns whether the room shows the hold. Raises BadRoom, BadHold."""
    room = as_any_room(room)
    return has_shown(room, as_hold(len(room), shown))


def web_under(web, hold):
    """Returns the held web of a hold that is not checked."""
    rows = list(web.rows())
    for house, digit in hold:
        rows[house] = ("rows", (), (digit,))
    return Web(rows)


def row_under(row, hold):
    """Returns the held row of a room; nothing is checked."""
    digits = dict(hold)
    return tuple([digits.get(house, mark) for house, mark in enumerate(row)])


def has_shown(room, shown):
    """Returns whether the room shows the hold; nothing is checked."""
    return all(room[house] == digit for house, digit in shown)
