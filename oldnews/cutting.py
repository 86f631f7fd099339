"""Groups that meet all rings of a parity."""

from oldnews.checks import all_houses, as_group
from oldnews.rings import rings_of
from oldnews.searching import least_groups
from oldnews.signed import as_signs


def meets_rings(signs, group, parity):
    """Returns whether the group meets the rings of the parity.

    Raises BadSize, BadSigns, BadGroup, BadDigit, TooLarge.
    """
    signs = as_signs(signs)
    group = as_group(len(signs), group)
    return meets_all(rings_of(signs, parity), group)


def least_cuts(signs, parity):
    """Returns the least cuts of the parity, ascending.

    Raises BadSize, BadSigns, BadDigit, TooLarge.
    """
    found = rings_of(signs, parity)
    return least_groups(all_houses(len(signs)), lambda group: meets_all(found, group))


def most_ends(signs):
    """Returns 2 to the power of the number of houses of a least cut of the parity 0.

    Raises BadSize, BadSigns, TooLarge.
    """
    return 1 << len(least_cuts(signs, 0)[0])


def meets_all(found, group):
    """Returns whether each of the rings has a house in the group."""
    return all(meets(ring, group) for ring in found)


def meets(ring, group):
    """Returns whether the ring has a house in the group."""
    return any(house in group for house in ring)
