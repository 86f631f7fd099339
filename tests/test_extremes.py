"""Point 107: least and greatest digits, and extreme webs."""

import random

from oldnews.errors import BadGroup, BadHouse, BadState
from oldnews.extremes import extreme_web, greatest_digit, least_digit
from tests.support import (
    VAST, Case, all_groups, all_states, bad_groups, bad_states, digit_at, fits_by_states,
    fitting_by_states, some_signs,
)
from tests.test_fits import QUARREL, SIGNS, small_cases


class DigitsTest(Case):
    def test_examples(self):
        seen = ((0, (0, 0), 1), (1, (0, 0), 0))
        # House 0 is on wherever lamp 1 is off.
        for state, least in (((0, 0), 1), ((1, 0), 1), ((0, 1), 0), ((1, 1), 0)):
            self.assertRow(self.unchanged(least_digit, SIGNS, seen, 0, state), least)
            self.assertRow(self.unchanged(greatest_digit, SIGNS, seen, 0, state), 1)
        for state, greatest in (((0, 0), 0), ((0, 1), 0), ((1, 0), 1), ((1, 1), 1)):
            self.assertRow(least_digit(SIGNS, seen, 1, state), 0)
            self.assertRow(greatest_digit(SIGNS, seen, 1, state), greatest)
        self.assertRow(least_digit(SIGNS, (), 0, (1, 1)), 0)
        self.assertRow(greatest_digit(SIGNS, (), 0, (0, 0)), 1)

    def test_against_all_webs(self):
        found = set()
        for signs, seen in small_cases(160):
            for house, tables in enumerate(fitting_by_states(signs, seen)):
                for state in all_states(len(signs)):
                    digits = [digit_at(row, state) for row in tables]
                    least, greatest = min(digits), max(digits)
                    self.assertRow(self.unchanged(least_digit, signs, seen, house, state), least)
                    self.assertRow(self.unchanged(greatest_digit, signs, seen, house, state),
                                   greatest)
                    found.add((least, greatest))
        self.assertEqual(found, {(0, 0), (0, 1), (1, 1)})

    def test_no_limit(self):
        four = tuple((house, 1) for house in (0, 4, 8, 11))
        signs = (four,) * 12
        seen = tuple((5, tuple(int(house == on) for house in range(12)), 1) for on in (0, 4))
        self.assertRow(least_digit(signs, seen, 5, (0,) * 12), 0)
        self.assertRow(least_digit(signs, seen, 5, (1,) * 12), 1)
        self.assertRow(least_digit(signs, seen, 4, (1,) * 12), 0)
        self.assertRow(greatest_digit(signs, ((5, (1,) * 12, 0),), 5, (0, 1) * 6), 0)

    def test_arguments(self):
        faults = ((2, BadHouse, "house", [2, -1, VAST, -VAST]), (3, BadState, "row", bad_states(2)))
        for call in (least_digit, greatest_digit):
            self.checked_seen(call, [SIGNS, (), 0, (0, 0)], *faults)
            self.quarrel_at_last(call, [SIGNS, QUARREL, 1, (0, 0)], *faults)


class ExtremeWebTest(Case):
    def test_examples(self):
        seen = ((0, (0, 0), 1), (1, (0, 0), 0))
        self.assertRow(extreme_web(SIGNS, seen, (0,)).rows(),
                       (("rows", (0, 1), (1, 1, 1, 1)), ("rows", (0,), (0, 0))))
        self.assertRow(extreme_web(SIGNS, seen, [1]).rows(),
                       (("rows", (0, 1), (1, 0, 1, 0)), ("rows", (0,), (0, 1))))

    def test_against_all_webs(self):
        for signs, seen in small_cases(161):
            size = len(signs)
            tables = fitting_by_states(signs, seen)
            webs = fits_by_states(signs, seen)
            for group in all_groups(size):
                rows = self.unchanged(lambda *args: extreme_web(*args).rows(), signs, seen, group)
                self.assertFrozen(rows)
                self.assertIn(rows, webs)
                for house, row in enumerate(rows):
                    for state in all_states(size):
                        digits = [digit_at(other, state) for other in tables[house]]
                        wanted = max(digits) if house in group else min(digits)
                        self.assertEqual(digit_at(row, state), wanted)

    def test_no_limit(self):
        rng = random.Random(162)
        for signs in some_signs(12, 5, seed=163, most=4):
            seen = []
            for _ in range(30):
                # Each house follows the first house that it hears, as its sign asks.
                house, state = rng.randrange(12), tuple(rng.randint(0, 1) for _ in range(12))
                heard, sign = (signs[house] + ((house, 0),))[0]
                digit = (state[heard] ^ (sign == -1)) if signs[house] else 0
                seen.append((house, state, digit))
            web = extreme_web(signs, seen, (0, 5, 11))
            for house, state, digit in seen:
                self.assertEqual(web.value(house, state), digit)
        four = tuple((house, 0) for house in range(4))
        self.assertRow(extreme_web((four,) * 12, (), (0,)).rows(), (
            ("rows", (0, 1, 2, 3), (1,) * 16),) + (("rows", (0, 1, 2, 3), (0,) * 16),) * 11)

    def test_arguments(self):
        groups = (2, BadGroup, "row", bad_groups(2))
        self.checked_seen(extreme_web, [SIGNS, (), (0,)], groups)
        self.quarrel_at_last(extreme_web, [SIGNS, QUARREL, ()], groups)
