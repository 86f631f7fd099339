"""What several tests need: small webs, and answers that are found without the package."""

import itertools
import operator
import random
import unittest

from oldnews.errors import BadDigit, BadHouse, BadSighting, BadSigns, BadSize, BadState, Quarrel
from oldnews.webs import Web

# The webs of points 29 and 33.
COPIES = (("rows", (1,), (0, 1)), ("rows", (0,), (0, 1)))
OPPOSITES = (("rows", (1,), (1, 0)), ("rows", (0,), (1, 0)))

# An integer that Python refuses to write out.
VAST = 10 ** 5000


def all_states(size):
    return list(itertools.product((0, 1), repeat=size))


def all_rooms(size):
    return list(itertools.product((0, 1, 2), repeat=size))


def all_groups(size):
    return sorted(group for count in range(size + 1)
                  for group in itertools.combinations(range(size), count))


def all_orders(size):
    return list(itertools.permutations(range(size)))


def states_in_room(room):
    return [state for state in all_states(len(room))
            if all(mark in (2, digit) for mark, digit in zip(room, state))]


def inside(room, other):
    """Whether the states of the room are states of the other one (point 4)."""
    return set(states_in_room(room)) <= set(states_in_room(other))


def room_of(states):
    """The least room that has the states, found among all rooms."""
    rooms = [room for room in all_rooms(len(states[0]))
             if set(states) <= set(states_in_room(room))]
    return min(rooms, key=lambda room: room.count(2))


def digit_at(row, state):
    """The digit of a table row at a state, by points 7 and 8."""
    kind, heard, body = row
    if kind == "rows":
        figures = "".join(str(state[house]) for house in heard)
        return body[int("0" + figures, 2)]
    signs = dict(heard)
    met = [all(state[house] == (1 if signs[house] == 1 else 0) for house in term) for term in body]
    return 1 if any(met) else 0


def image_of(rows, state):
    return tuple(digit_at(row, state) for row in rows)


def bits_row(rng, size, most=4):
    heard = sorted(rng.sample(range(size), rng.randint(0, min(most, size))))
    return ("rows", tuple(heard), tuple(rng.randint(0, 1) for _ in range(2 ** len(heard))))


def terms_row(rng, size, most=4):
    heard = sorted(rng.sample(range(size), rng.randint(0, min(most, size))))
    terms = []
    for _ in range(rng.randint(0, 3)):
        term = tuple(house for house in heard if rng.randint(0, 1))
        if not any(set(term) <= set(other) or set(other) <= set(term) for other in terms):
            terms.append(term)
    return ("terms", tuple((house, rng.choice((1, -1))) for house in heard), tuple(sorted(terms)))


def some_webs(size, many, seed=1, most=4):
    """Some webs of so many houses with tables of both kinds, the same ones each time."""
    rng = random.Random(seed * 100 + size)
    return [Web([rng.choice((bits_row, terms_row))(rng, size, most) for _ in range(size)])
            for _ in range(many)]


def sticky_webs(size, many, seed=1):
    """Some webs of up to 4 houses that keep most lamps as they are, so that they have many ends."""
    rng = random.Random(seed * 100 + size)
    webs = []
    for _ in range(many):
        rows = []
        for house in range(size):
            bits = [state[house] ^ (rng.randint(0, 3) == 0) for state in all_states(size)]
            rows.append(("rows", tuple(range(size)), tuple(bits)))
        webs.append(Web(rows))
    return webs


def both_webs(size, many, seed=1):
    """Some webs of either sort."""
    return some_webs(size, many // 2, seed) + sticky_webs(size, many, seed)


def constant_web(size, digit=0):
    """A web in which no house hears another one."""
    return Web([("rows", (), (digit,))] * size)


def copying_web(size):
    """A web in which each house has the digit of its own lamp."""
    return Web([("rows", (house,), (0, 1)) for house in range(size)])


def listed(value):
    """The same row with lists in place of all tuples."""
    if isinstance(value, (list, tuple)):
        return [listed(item) for item in value]
    return value


def takes_by_states(row, room, digit):
    """Whether the table row has the digit at some state of the room (point 9)."""
    return any(digit_at(row, state) == digit for state in states_in_room(room))


def frozen_web(web, state, group):
    """The web in which the houses outside the group keep their lamps of the state."""
    return Web([row if house in group else ("rows", (), (state[house],))
                for house, row in enumerate(web.rows())])


def bad_states(size):
    """Rows that are not states of a web of so many houses; the last ones have other sizes."""
    return [(0,) * (size - 1) + (wrong,) for wrong in (2, -1, VAST, -VAST)] + [
        (), (0,) * (size - 1), (1,) * (size + 1), (0,) * 13]


def bad_rooms(size):
    """Rows that are not rooms of a web of so many houses."""
    return [(2,) * (size - 1) + (wrong,) for wrong in (3, -1, VAST, -VAST)] + [
        (), (2,) * (size - 1), (2,) * (size + 1), (2,) * 13]


def bad_groups(size):
    """Rows that are not groups of a web of so many houses, from 2 houses on."""
    return [(size,), (-1,), (0, 0), (1, 0), (0, size), (VAST,), (-VAST, 0),
            tuple(range(size + 1))]


def bad_holds(size):
    """Rows of pairs that are not holds of a web of so many houses, from 2 houses on."""
    return [((0, wrong),) for wrong in (2, -1, VAST, -VAST)] + [
        ((house, 0),) for house in (size, -1, VAST, -VAST)] + [
        ((0, 1), (0, 1)), ((0, 0), (0, 1)), ((1, 0), (0, 0)), ((0, 1), (1, 2)),
        tuple((house, 1) for house in range(size + 1))]


def all_holds(size, houses=None):
    """All holds of a web of so many houses, or those of them with these houses at most."""
    marks = [(0, 1, 2) if houses is None or house in houses else (2,) for house in range(size)]
    return sorted(tuple((house, mark) for house, mark in enumerate(room) if mark != 2)
                  for room in itertools.product(*marks))


def held_by_hand(web, hold):
    """The held web."""
    digits = dict(hold)
    return Web([("rows", (), (digits[house],)) if house in digits else row
                for house, row in enumerate(web.rows())])


def all_signs(size):
    """All signed webs of so many houses, for 1 or 2 houses."""
    choices = [[()] + [((house, sign),) for sign in (1, -1, 0)] for house in range(size)]
    rows = [sum(parts, ()) for parts in itertools.product(*choices)]
    return list(itertools.product(rows, repeat=size))


def some_signs(size, many, seed=1, most=3):
    """Some signed webs of so many houses, the same ones each time."""
    rng = random.Random(seed * 100 + size)
    found = []
    for _ in range(many):
        rows = []
        for _ in range(size):
            heard = sorted(rng.sample(range(size), rng.randint(0, min(most, size))))
            rows.append(tuple((house, rng.choice((1, -1, 1, -1, 0))) for house in heard))
        found.append(tuple(rows))
    return found


def keeps_by_states(row, hearings, size):
    """Whether the table row keeps the hearings, found by switching each lamp at each state."""
    signs = dict(hearings)
    for state in all_states(size):
        for house in range(size):
            if state[house] == 0:
                on = state[:house] + (1,) + state[house + 1:]
                change = digit_at(row, on) - digit_at(row, state)
                if change and (house not in signs or signs[house] == -change):
                    return False
    return True


def tables_by_states(hearings, size):
    """All table rows of kind `rows` with the houses of the hearings that keep them, ascending."""
    heard = tuple(house for house, _ in hearings)
    rows = [("rows", heard, bits) for bits in all_states(2 ** len(heard))]
    return [row for row in rows if keeps_by_states(row, hearings, size)]


def webs_by_states(signs):
    """The rows of table rows of all webs that keep the signed web, ascending."""
    return list(itertools.product(*[tables_by_states(hearings, len(signs)) for hearings in signs]))


# Signed webs that are none, with the error, its attribute and the value of this.
BAD_SIGNS = (
    ((), BadSize, "count", 0), (((),) * 13, BadSize, "count", 13),
    ((((2, 1),), ((2, 1),)), BadSigns, "house", 0), (((), ((-1, 1),)), BadSigns, "house", 1),
    ((((0, 1), (0, 1)), ((0, 2),)), BadSigns, "house", 0),
    ((((1, 1), (0, 1)), ()), BadSigns, "house", 0), (((), ((0, 2),)), BadSigns, "house", 1),
    (((), ((0, 1), (1, -2))), BadSigns, "house", 1), ((((0, VAST),), ()), BadSigns, "house", 0),
    ((((VAST, 1),), ()), BadSigns, "house", 0), ((((-VAST, 1),), ((9, 9),)), BadSigns, "house", 0),
    (((),) * 5 + (tuple((house, 1) for house in range(5)),), BadSigns, "house", 5),
)


def below_by_hand(hearings, state, other):
    """Whether the state is below the other one, by point 103."""
    orders = {1: operator.le, -1: operator.ge, 0: operator.eq}
    return all(orders[sign](state[house], other[house]) for house, sign in hearings)


def quarrels_by_hand(signs, seen):
    return tuple(
        (first, second) for first, (house, state, digit) in enumerate(seen)
        for second, (other, above, told) in enumerate(seen)
        if house == other and digit == 1 and told == 0 and below_by_hand(signs[house], state, above))


def fitting_by_states(signs, seen):
    """For each house, its table rows of point 91 by which all its sightings are right."""
    return [[row for row in tables_by_states(hearings, len(signs))
             if all(digit_at(row, state) == digit for other, state, digit in seen if other == house)]
            for house, hearings in enumerate(signs)]


def fits_by_states(signs, seen):
    """The rows of table rows of all webs that fit, ascending."""
    return list(itertools.product(*fitting_by_states(signs, seen)))


def true_sightings(rng, signs, many):
    """So many sightings of one web that keeps the signed web, so that they do not quarrel."""
    rows = [rng.choice(tables_by_states(hearings, len(signs))) for hearings in signs]
    seen = []
    for _ in range(many):
        house = rng.randrange(len(signs))
        state = tuple(rng.randint(0, 1) for _ in signs)
        seen.append((house, state, digit_at(rows[house], state)))
    return tuple(seen)


def any_sightings(rng, signs, many):
    """So many sightings, which may quarrel."""
    return tuple((rng.randrange(len(signs)), tuple(rng.randint(0, 1) for _ in signs),
                  rng.randint(0, 1)) for _ in range(many))


def bad_sightings(size):
    """Items that are not sightings of a signed web of so many houses, with the error of each."""
    state = (0,) * size
    return [((house, state, 1), BadHouse, "house", house)
            for house in (size, -1, VAST, -VAST)] + [
        ((0, row, 1), BadState, "row", row) for row in bad_states(size)] + [
        ((0, state, digit), BadDigit, "digit", digit) for digit in (2, -1, VAST, -VAST)] + [
        # The first part that does not fit decides.
        ((size, state + (0,), 2), BadHouse, "house", size),
        ((0, state + (0,), 2), BadState, "row", state + (0,))]


class Case(unittest.TestCase):
    """A test case for the errors and the rows of the program."""

    def refused(self, error, call, *args, **more):
        """Asserts that the call raises just this error with the attributes `more`."""
        with self.assertRaises(error) as caught:
            call(*args)
        self.assertIs(caught.exception.__class__, error)
        for name, value in more.items():
            self.assertEqual(getattr(caught.exception, name), value)
            self.assertFrozen(getattr(caught.exception, name))
        return caught.exception

    def checked(self, call, good, *faults):
        """Asserts that each fault is found, and that the one of the first parameter is raised.

        The call takes the arguments `good`. A fault is the place of a parameter, an
        error, its attribute and values that do not fit, in the order of the places.
        """
        for number, (place, error, name, values) in enumerate(faults):
            for value in values:
                wanted = tuple(value) if isinstance(value, list) else value
                args = list(good)
                args[place] = value
                self.refused(error, call, *args, **{name: wanted})
                for later, _, _, others in faults[number + 1:]:
                    args[later] = others[0]
                self.refused(error, call, *listed(args), **{name: wanted})

    def checked_signs(self, call, good, *faults):
        """Does what `checked` does, for a call whose first argument is a signed web."""
        self.checked(call, good, *faults)
        for signs, error, name, value in BAD_SIGNS:
            args = [signs] + list(good[1:])
            self.refused(error, call, *args, **{name: value})
            for place, _, _, values in faults:
                args[place] = values[0]
                self.refused(error, call, *listed(args), **{name: value})

    def checked_seen(self, call, good, *faults):
        """Does what `checked` does, for a call with a signed web and sightings as its first two.

        The good arguments after the sightings fit each state of sightings.
        """
        self.checked_signs(call, good, *faults)
        sighting = (0, (0,) * len(good[0]), 1)
        for wrong, _, _, _ in bad_sightings(len(good[0])):
            for place in (0, 2):
                args = [good[0], (sighting,) * place + (wrong, (-1, (), 5))] + list(good[2:])
                self.refused(BadSighting, call, *args, place=place)
                for later, _, _, values in faults:
                    args[later] = values[0]
                self.refused(BadSighting, call, *listed(args), place=place)
        for signs, error, name, value in BAD_SIGNS:
            args = [signs, ((-1, (), 5),)] + list(good[2:])
            self.refused(error, call, *args, **{name: value})

    def quarrel_at_last(self, call, good, *faults):
        """Asserts that a quarrel is found after all faults of arguments.

        The good sightings of the call quarrel first at the places 1 and 0.
        """
        self.refused(Quarrel, call, *good, first=1, second=0)
        self.refused(Quarrel, call, *listed(good), first=1, second=0)
        for place, error, name, values in faults:
            for value in values:
                args = list(good)
                args[place] = value
                self.refused(error, call, *args, **{name: value})

    def assertFrozen(self, value):
        """Asserts that all rows are tuples and that no number is True or False."""
        if value.__class__ is tuple:
            for item in value:
                self.assertFrozen(item)
        else:
            self.assertTrue(value is None or value.__class__ in (int, str))

    def assertRow(self, found, wanted):
        self.assertFrozen(found)
        self.assertEqual(found, wanted)

    def assertTruth(self, found, wanted):
        self.assertIs(found, wanted)

    def unchanged(self, call, *args, **more):
        """Calls with tuples and with lists, and asserts that both agree and change nothing."""
        found = call(*args, **more)
        lists = listed(args)
        keywords = {name: listed(more[name]) for name in more}
        self.assertEqual(call(*lists, **keywords), found)
        self.assertEqual(lists, listed(args))
        self.assertEqual(keywords, {name: listed(more[name]) for name in more})
        return found
