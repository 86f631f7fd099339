"""Points 92 and 93: rings and their parities."""

import itertools
import random

from oldnews.errors import BadDigit, BadRing, TooLarge
from oldnews.rings import ring_parities, rings, rings_of
from tests.support import VAST, Case, all_signs, some_signs

EXAMPLE = (((1, 1),), ((0, -1), (1, 0)))


def rings_by_hand(signs):
    """The rings, found among all rows of distinct houses."""
    heard = [dict(hearings) for hearings in signs]
    rows = [row for count in range(1, len(signs) + 1)
            for row in itertools.permutations(range(len(signs)), count)]
    return tuple(sorted(
        row for row in rows if row[0] == min(row) and row[-1] in heard[row[0]]
        and all(before in heard[house] for before, house in zip(row, row[1:]))))


def products(signs, ring):
    """The products of the signs of a ring, for all replacements of the signs 0."""
    pairs = zip(ring, (ring[-1],) + ring[:-1])
    choices = [(sign,) if sign else (1, -1)
               for sign in (dict(signs[house])[before] for house, before in pairs)]
    found = set()
    for row in itertools.product(*choices):
        product = 1
        for sign in row:
            product *= sign
        found.add(product)
    return found


def circle_signs(size):
    """A signed web in which each house hears the one before it; only the first sign is -1."""
    return tuple((((house - 1) % size, -1 if house == 0 else 1),) for house in range(size))


class RingsTest(Case):
    def test_examples(self):
        self.assertRow(self.unchanged(rings, EXAMPLE), ((0, 1), (1,)))
        self.assertRow(self.unchanged(ring_parities, EXAMPLE, (0, 1)), (False, True))
        self.assertRow(self.unchanged(ring_parities, EXAMPLE, (1,)), (True, True))
        self.assertRow(self.unchanged(rings_of, EXAMPLE, 0), ((1,),))
        self.assertRow(rings_of(EXAMPLE, 1), ((0, 1), (1,)))
        self.assertRow(rings(((), ((0, 1),))), ())
        # House 0 hears house 2, which hears house 1, which hears house 0.
        self.assertRow(rings((((2, 1),), ((0, 1),), ((1, -1),))), ((0, 1, 2),))

    def assertRow(self, found, wanted):
        if found != () and found[0] in (False, True):
            self.assertEqual([item.__class__ for item in found], [bool] * len(found))
            self.assertEqual(found, wanted)
        else:
            super().assertRow(found, wanted)

    def test_a_house_that_hears_itself(self):
        for sign, wanted in ((1, (True, False)), (-1, (False, True)), (0, (True, True))):
            self.assertRow(rings((((0, sign),),)), ((0,),))
            self.assertRow(ring_parities((((0, sign),),), [0]), wanted)

    def test_against_all_rows(self):
        many = set()
        for signs in all_signs(1) + all_signs(2) + some_signs(3, 30, seed=103) + some_signs(
                4, 20, seed=104, most=4) + some_signs(6, 4, seed=105, most=4):
            wanted = rings_by_hand(signs)
            many.add(len(wanted))
            self.assertRow(self.unchanged(rings, signs), wanted)
            parities = [products(signs, ring) for ring in wanted]
            for ring, found in zip(wanted, parities):
                self.assertRow(self.unchanged(ring_parities, signs, ring),
                               (1 in found, -1 in found))
            for parity, product in ((0, 1), (1, -1)):
                self.assertRow(self.unchanged(rings_of, signs, parity), tuple(
                    ring for ring, found in zip(wanted, parities) if product in found))
        self.assertGreater(max(many), 10)

    def test_limit(self):
        self.assertRow(rings(circle_signs(6)), ((0, 1, 2, 3, 4, 5),))
        self.assertRow(rings_of(circle_signs(6), 1), ((0, 1, 2, 3, 4, 5),))
        self.assertRow(rings_of(circle_signs(6), 0), ())
        for size in (7, 12):
            for signs in (((),) * size, circle_signs(size)):
                self.refused(TooLarge, rings, signs, count=size, limit=6)
                for parity in (0, 1):
                    self.refused(TooLarge, rings_of, signs, parity, count=size, limit=6)
            # The parities of a ring have no limit.
            self.assertRow(ring_parities(circle_signs(size), tuple(range(size))), (False, True))


class NoRingTest(Case):
    def test_rows_that_are_no_ring(self):
        signs = (((2, 1),), ((0, 1),), ((1, -1), (2, 1)))
        for row in ((1, 2, 0), (2, 0, 1), (0, 2, 1), (0, 1), (0,), (), (2, 2), (0, 1, 2, 0, 1, 2),
                    (0, 1, 1, 2), (3,), (-1,), (-1, 0, 1), (VAST,), (-VAST,), (0, 1, 2, VAST)):
            self.refused(BadRing, ring_parities, signs, row, row=row)
            self.refused(BadRing, ring_parities, signs, list(row), row=row)
        self.assertEqual(ring_parities(signs, (0, 1, 2)), (False, True))
        self.assertEqual(ring_parities(signs, (2,)), (True, False))

    def test_all_rows_of_small_signed_webs(self):
        rng = random.Random(106)
        for signs in all_signs(2)[::3] + some_signs(3, 15, seed=107):
            found = rings_by_hand(signs)
            for count in range(5):
                for row in itertools.product(range(-1, len(signs) + 1), repeat=count):
                    if row not in found and rng.randint(0, 3) == 0:
                        self.refused(BadRing, ring_parities, signs, row, row=row)


class ArgumentsTest(Case):
    def test_signs_and_rings(self):
        for signs in (EXAMPLE, EXAMPLE + ((),) * 10):
            self.checked_signs(ring_parities, [signs, (1,)],
                               (1, BadRing, "row", [(), (0,), (1, 0), (-1,), (12,)]))
            if len(signs) == 2:
                self.checked_signs(rings, [signs])
            self.checked_signs(rings_of, [signs, 0], (1, BadDigit, "digit", [2, -1, VAST, -VAST]))
