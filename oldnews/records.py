"""Sightings of tables that nobody told, and records of them."""

from oldnews.checks import as_any_states, as_state, check_digit, check_house
from oldnews.errors import BadArgument, BadSighting, Quarrel
from oldnews.signed import as_signs


def quarrels(signs, seen):
    """Returns the quarrels in ascending order. Raises BadSize, BadSigns, BadSighting."""
    signs = as_signs(signs)
    return tuple(quarrels_since(signs, as_seen(signs, seen), 0))


def sightings_of(states):
    """Returns the sightings of states that are followed by their images. Raises BadState."""
    if len(states) == 0:
        return ()
    states = as_any_states(states)
    return tuple([sighting for state, after in zip(states, states[1:])
                  for sighting in beat_sightings(state, after)])


class Record:
    """Sightings of a signed web that do not quarrel, in the order in which they are added."""

    def __init__(self, signs):
        self._signs = as_signs(signs)
        self._seen = []

    def __iter__(self):
        return iter(self._seen)

    @property
    def many(self):
        """The number of the sightings."""
        return len(self._seen)

    def see(self, house, state, digit):
        """Adds one sighting. Raises BadHouse, BadState, BadDigit, Quarrel."""
        self._add([as_sighting(len(self._signs), house, state, digit)])

    def see_beat(self, state, after):
        """Adds the sightings of a state and its image. Raises BadState, Quarrel."""
        state = as_state(len(self._signs), state)
        after = as_state(len(self._signs), after)
        self._add(beat_sightings(state, after))

    def forget(self):
        """Takes away the newest sighting and returns it, or returns None if there is none."""
        if len(self._seen) == 0:
            return None
        return self._seen.pop()

    def sightings(self):
        """Returns the row of the sightings in order."""
        return tuple(self._seen)

    def _add(self, newer):
        """Adds the sightings, which are not checked, if they do not quarrel. Raises Quarrel."""
        longer = self._seen + newer
        check_quarrels_since(self._signs, longer, len(self._seen))
        self._seen = longer


def as_seen(signs, seen):
    """Returns the sightings as a tuple of tuples. Raises BadSighting."""
    found = []
    for place, (house, state, digit) in enumerate(seen):
        try:
            found.append(as_sighting(len(signs), house, state, digit))
        except BadArgument as fault:
            raise BadSighting(place) from fault
    return tuple(found)


def as_sighting(size, house, state, digit):
    """Returns the sighting as a tuple. Raises BadHouse, BadState, BadDigit."""
    check_house(size, house)
    state = as_state(size, state)
    check_digit(digit)
    return (house, state, digit)


def beat_sightings(state, after):
    """Returns the list of the sightings of all houses at a state that the other one follows."""
    return [(house, state, digit) for house, digit in enumerate(after)]


def check_quarrels(signs, seen):
    """Raises Quarrel for the first quarrel, if there is one."""
    check_quarrels_since(signs, seen, 0)


def check_quarrels_since(signs, seen, first):
    """Raises Quarrel if a sighting from the place `first` on quarrels with another one."""
    found = quarrels_since(signs, seen, first)
    if len(found) > 0:
        raise Quarrel(found[0][0], found[0][1])


def quarrels_since(signs, seen, first):
    """Returns the list of the quarrels that have a place from `first` on, ascending."""
    found = []
    for house, hearings in enumerate(signs):
        lit = places_seen(hearings, seen, house, 1)
        dark = places_seen(hearings, seen, house, 0)
        found.extend([(place, other) for place, low in lit for other, high in dark
                      if max(place, other) >= first and is_below(hearings, low, high)])
    return sorted(found)


def places_seen(hearings, seen, house, digit):
    """Returns the list of the sightings of the house with the digit.

    Each is a pair of its place and of the digits of the heard lamps.
    """
    return [(place, heard_digits(hearings, state))
            for place, (other, state, told) in enumerate(seen) if (other, told) == (house, digit)]


def heard_digits(hearings, state):
    """Returns the digits of the heard lamps at the state, in the order of the hearings."""
    return tuple([state[house] for house, sign in hearings])


def is_below(hearings, low, high):
    """Returns whether states with the heard digits `low` are below those with `high`."""
    return all(goes_up(sign, digit, other) for (house, sign), digit, other
               in zip(hearings, low, high))


def goes_up(sign, digit, other):
    """Returns whether a lamp that goes from the one digit to the other follows the sign."""
    if sign == 0:
        return digit == other
    return sign * digit <= sign * other
