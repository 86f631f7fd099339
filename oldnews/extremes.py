"""The least and the greatest digits that tables can have by the sightings."""

from oldnews.checks import as_group, as_state, check_house
from oldnews.records import as_seen, check_quarrels, heard_digits, is_below, places_seen
from oldnews.rows import digit_rows
from oldnews.signed import as_signs, heard_in
from oldnews.webs import Web


def least_digit(signs, seen, house, state):
    """Returns the least digit of the house at the state.

    Raises BadSize, BadSigns, BadSighting, BadHouse, BadState, Quarrel.
    """
    return digits_between(signs, seen, house, state)[0]


def greatest_digit(signs, seen, house, state):
    """Returns the greatest digit of the house at the state.

    Raises BadSize, BadSigns, BadSighting, BadHouse, BadState, Quarrel.
    """
    return digits_between(signs, seen, house, state)[1]


def extreme_web(signs, seen, group):
    """Returns the web with the greatest digits at the group and the least ones elsewhere.

    Raises BadSize, BadSigns, BadSighting, BadGroup, Quarrel.
    """
    signs = as_signs(signs)
    seen = as_seen(signs, seen)
    group = as_group(len(signs), group)
    check_quarrels(signs, seen)
    return extreme_of(extreme_rows(signs, seen), group)


def digits_between(signs, seen, house, state):
    """Returns the pair of the least and the greatest digit of the house at the state.

    Raises BadSize, BadSigns, BadSighting, BadHouse, BadState, Quarrel.
    """
    signs = as_signs(signs)
    seen = as_seen(signs, seen)
    check_house(len(signs), house)
    state = as_state(len(signs), state)
    check_quarrels(signs, seen)
    return digits_at(signs, seen, house, heard_digits(signs[house], state))


def digits_at(signs, seen, house, digits):
    """Returns the pair of the least and the greatest digit for the heard digits; unchecked."""
    hearings = signs[house]
    lit = places_seen(hearings, seen, house, 1)
    dark = places_seen(hearings, seen, house, 0)
    least = 1 if any(is_below(hearings, low, digits) for place, low in lit) else 0
    greatest = 0 if any(is_below(hearings, digits, high) for place, high in dark) else 1
    return least, greatest


def extreme_rows(signs, seen):
    """Returns, for each house, the pair of the table rows with the least and the greatest digits.

    There is no quarrel; nothing is checked.
    """
    pairs = []
    for house, hearings in enumerate(signs):
        heard = heard_in(hearings)
        bits = [digits_at(signs, seen, house, digits) for digits in digit_rows(len(heard))]
        pairs.append((("rows", heard, tuple([least for least, greatest in bits])),
                      ("rows", heard, tuple([greatest for least, greatest in bits]))))
    return pairs


def extreme_of(pairs, group):
    """Returns the web that has, of the pairs of extreme_rows, the second rows at the group."""
    return Web([pair[1] if house in group else pair[0] for house, pair in enumerate(pairs)])
