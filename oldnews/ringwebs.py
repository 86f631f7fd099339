"""Webs in which only one ring is heard."""

from oldnews.checks import check_digit
from oldnews.errors import BadRing
from oldnews.rings import as_ring, can_have, parity_of, signs_along
from oldnews.signed import as_signs
from oldnews.webs import Web


def ring_web(signs, ring, parity):
    """Returns the ring web. Raises BadSize, BadSigns, BadRing, BadDigit."""
    signs = as_signs(signs)
    ring = as_ring(signs, ring)
    check_digit(parity)
    told = signs_along(signs, ring)
    if not can_have(told, parity):
        raise BadRing(ring)
    rows = [silent_row()] * len(signs)
    for place, sign in enumerate(settled(told, parity)):
        rows[ring[place]] = following_row(ring[place - 1], sign)
    return Web(rows)


def settled(told, parity):
    """Returns the list of the signs without 0, so that the ring has the parity."""
    full = [1 if sign == 0 else sign for sign in told]
    if parity_of(full) != parity:
        full[told.index(0)] = -1
    return full


def silent_row():
    """Returns the table row of a house that hears no house and has the digit 0."""
    return ("rows", (), (0,))


def following_row(house, sign):
    """Returns the table row of a house that has the digit of the given house, or the other one."""
    if sign == -1:
        return ("rows", (house,), (1, 0))
    return ("rows", (house,), (0, 1))
