"""Sweeps: blocks of houses that set their lamps one after another."""

from oldnews.checks import as_state, is_row_of
from oldnews.errors import BadOrder
from oldnews.ringwebs import following_row, silent_row
from oldnews.signed import as_signs
from oldnews.webs import Web, image_in


def sweep(web, state, blocks):
    """Returns the state to which the sweep leads. Raises BadState, BadOrder."""
    state = as_state(web.size, state)
    blocks = as_blocks(web.size, blocks)
    for number in sorted(set(blocks)):
        image = image_in(web, state)
        state = tuple([image[house] if blocks[house] == number else digit
                       for house, digit in enumerate(state)])
    return state


def hearing_tags(signs, blocks):
    """Returns, for each house, the tags of its hearings. Raises BadSize, BadSigns, BadOrder."""
    signs = as_signs(signs)
    return tags_by(signs, as_blocks(len(signs), blocks))


def same_sweeps(signs, blocks, other):
    """Returns whether each hearing has the same tag by both rows of blocks.

    Raises BadSize, BadSigns, BadOrder.
    """
    return parting(signs, blocks, other) is None


def parting(signs, blocks, other):
    """Returns a web and a state from which the two sweeps lead apart, or None.

    Raises BadSize, BadSigns, BadOrder.
    """
    signs = as_signs(signs)
    blocks = as_blocks(len(signs), blocks)
    other = as_blocks(len(signs), other)
    for house, hearings in enumerate(signs):
        for heard, sign in hearings:
            if tag_by(blocks, house, heard) != tag_by(other, house, heard):
                return lonely_web(len(signs), house, heard, sign), lonely_state(len(signs), heard)
    return None


def blocks_for(signs, tags):
    """Returns the least blocks by which the hearings have the tags, or None.

    Raises BadSize, BadSigns, BadOrder.
    """
    signs = as_signs(signs)
    bounds = bounds_of(signs, as_tags(signs, tags))
    blocks = [0] * len(signs)
    # The least numbers come from chains of bounds without any house twice. If
    # the blocks are still too low after that, the bounds go round and round.
    for _ in range(len(signs)):
        for high, low, step in bounds:
            blocks[high] = max(blocks[high], blocks[low] + step)
    if all(blocks[high] >= blocks[low] + step for high, low, step in bounds):
        return tuple(blocks)
    return None


def as_blocks(size, row):
    """Returns the blocks of so many houses as a tuple. Raises BadOrder."""
    if len(row) != size or not all(number >= 0 for number in row):
        raise BadOrder(tuple(row))
    return tuple(row)


def as_tags(signs, tags):
    """Returns the tags of the signed web as a tuple of tuples. Raises BadOrder."""
    rows = tuple([tuple(row) for row in tags])
    if len(rows) != len(signs) or not all(is_row_of(len(hearings), (0, 1), row)
                                          for hearings, row in zip(signs, rows)):
        raise BadOrder(rows)
    return rows


def tags_by(signs, blocks):
    """Returns, for each house, the tags of its hearings; nothing is checked."""
    return tuple([tuple([tag_by(blocks, house, heard) for heard, sign in hearings])
                  for house, hearings in enumerate(signs)])


def tag_by(blocks, house, heard):
    """Returns the tag by which the house hears the heard house."""
    if blocks[heard] < blocks[house]:
        return 1
    return 0


def bounds_of(signs, tags):
    """Returns what the tags ask, as a list of triples.

    The number of the first house has to be the number of the second one plus the
    third item, or greater.
    """
    bounds = []
    for house, hearings in enumerate(signs):
        for (heard, _), tag in zip(hearings, tags[house]):
            bounds.append((house, heard, 1) if tag == 1 else (heard, house, 0))
    return bounds


def lonely_web(size, house, heard, sign):
    """Returns the web in which only the one house hears another one."""
    rows = [silent_row()] * size
    rows[house] = following_row(heard, sign)
    return Web(rows)


def lonely_state(size, house):
    """Returns the state in which only the lamp of the house is on."""
    return tuple([1 if other == house else 0 for other in range(size)])
