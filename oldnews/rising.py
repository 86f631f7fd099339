"""Signed webs turned at a group, and groups at which no ring is left that can be odd."""

from oldnews.checks import as_group
from oldnews.hearers import pieces_of
from oldnews.signed import as_signs, heard_in


def turned_signs(signs, group):
    """Returns the signed web turned at the group. Raises BadSize, BadSigns, BadGroup."""
    signs = as_signs(signs)
    return turned_at(signs, as_group(len(signs), group))


def rising_group(signs):
    """Returns the group at which all pieces come to rise, or None. Raises BadSize, BadSigns."""
    signs = as_signs(signs)
    listed = pieces_of([heard_in(hearings) for hearings in signs])
    group = tuple(sorted([house for piece in listed for house in opposite_houses(signs, piece)]))
    turned = turned_at(signs, group)
    # Chains lead from each house of a piece to each other one. So each hearing
    # in a piece is in a ring, and it is its sign that makes a ring odd, if one is.
    if all(is_rising(turned, piece) for piece in listed):
        return group
    return None


def turned_at(signs, group):
    """Returns the signed web turned at the group; nothing is checked."""
    return tuple([tuple([(heard, turned_sign(sign, house in group, heard in group))
                         for heard, sign in hearings]) for house, hearings in enumerate(signs)])


def turned_sign(sign, turns, heard_turns):
    """Returns the sign of a hearing whose two houses are turned or not."""
    if turns == heard_turns:
        return sign
    return -sign


def opposite_houses(signs, piece):
    """Returns the list of those houses of the piece that go against its least house.

    Each house is compared along one chain only; other chains may tell otherwise.
    """
    sides = {piece[0]: 1}
    waiting = [piece[0]]
    while waiting:
        house = waiting.pop()
        for heard, sign in signs[house]:
            if heard in piece and heard not in sides:
                sides[heard] = turned_sign(sides[house], sign == 1, True)
                waiting.append(heard)
    return [house for house in piece if sides[house] == -1]


def is_rising(signs, piece):
    """Returns whether each hearing whose two houses are in the piece has the sign 1."""
    return all(sign == 1 for house in piece for heard, sign in signs[house] if heard in piece)
