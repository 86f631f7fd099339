"""Parts of webs and of rooms at a group."""

from oldnews.checks import as_any_room, as_group, is_row_of
from oldnews.errors import BadRoom, BadSize, HearsOutside
from oldnews.hearers import hearing_outside
from oldnews.ordering import renamed_row
from oldnews.webs import Web


def piece_web(web, group):
    """Returns the web of an upstream group. Raises BadGroup, BadSize, HearsOutside."""
    group = as_group(web.size, group)
    if len(group) == 0:
        raise BadSize(0)
    outward = hearing_outside(web, group)
    if len(outward) > 0:
        raise HearsOutside(outward[0])
    numbers = {house: number for number, house in enumerate(group)}
    return Web([renamed_row(web.tables[house], numbers) for house in group])


def rim(web, group):
    """Returns the group of the houses that some house outside the group hears. Raises BadGroup."""
    group = as_group(web.size, group)
    heard = [house for other, table in enumerate(web.tables) if other not in group
             for house in table.heard]
    return tuple([house for house in group if house in heard])


def with_piece(web, group, piece):
    """Returns the web with the tables of the web `piece` at the group. Raises BadGroup, BadSize."""
    group = as_group(web.size, group)
    if piece.size != len(group):
        raise BadSize(piece.size)
    rows = list(web.rows())
    for house, table in zip(group, piece.tables):
        rows[house] = renamed_row(table, group)
    return Web(rows)


def part_of(row, group):
    """Returns the part of the room at the group. Raises BadRoom, BadGroup."""
    row = as_any_room(row)
    group = as_group(len(row), group)
    return tuple([row[house] for house in group])


def put_back(row, group, part):
    """Returns the room with another part at the group. Raises BadRoom, BadGroup."""
    row = as_any_room(row)
    group = as_group(len(row), group)
    if not is_row_of(len(group), (0, 1, 2), part):
        raise BadRoom(tuple(part))
    marks = list(row)
    for house, mark in zip(group, part):
        marks[house] = mark
    return tuple(marks)
