"""Rings of hearings, and their parities."""

from oldnews.checks import check_digit, check_limit
from oldnews.errors import BadRing
from oldnews.signed import as_signs, heard_in

# How many houses a signed web may have for its rings to be listed.
MOST_OF_RINGS = 6


def rings(signs):
    """Returns the rings in ascending order. Raises BadSize, BadSigns, TooLarge."""
    signs = as_signs(signs)
    check_limit(len(signs), MOST_OF_RINGS)
    return tuple(sorted([ring for house in range(len(signs)) for ring in rings_from(signs, house)]))


def ring_parities(signs, ring):
    """Returns whether the ring can be even, and whether it can be odd, as a tuple.

    Raises BadSize, BadSigns, BadRing.
    """
    signs = as_signs(signs)
    told = signs_along(signs, as_ring(signs, ring))
    return can_have(told, 0), can_have(told, 1)


def rings_of(signs, parity):
    """Returns the rings that can have the parity, ascending.

    Raises BadSize, BadSigns, BadDigit, TooLarge.
    """
    signs = as_signs(signs)
    check_digit(parity)
    return tuple([ring for ring in rings(signs) if can_have(signs_along(signs, ring), parity)])


def as_ring(signs, row):
    """Returns the ring as a tuple. Raises BadRing."""
    if not is_ring(signs, row):
        raise BadRing(tuple(row))
    return tuple(row)


def is_ring(signs, row):
    """Returns whether the row is a ring of a signed web that is not checked."""
    if len(row) == 0 or len(set(row)) != len(row):
        return False
    if not all(0 <= house < len(signs) for house in row) or row[0] != min(row):
        return False
    # The house before the first one is the last one.
    return all(hears(signs, row[k], row[k - 1]) for k in range(len(row)))


def hears(signs, house, other):
    """Returns whether the house hears the other one."""
    return other in heard_in(signs[house])


def rings_from(signs, first):
    """Returns the list of the rings that have this first house."""
    found = []
    paths = [(first,)]
    while paths:
        path = paths.pop()
        if hears(signs, first, path[-1]):
            found.append(path)
        paths.extend([path + (house,) for house in range(first + 1, len(signs))
                      if house not in path and hears(signs, house, path[-1])])
    return found


def signs_along(signs, ring):
    """Returns the list of the signs of the ring."""
    return [dict(signs[ring[k]])[ring[k - 1]] for k in range(len(ring))]


def can_have(told, parity):
    """Returns whether a ring with these signs can have the parity."""
    return 0 in told or parity_of(told) == parity


def parity_of(told):
    """Returns the parity of a ring with these signs, none of which is 0."""
    return told.count(-1) & 1
