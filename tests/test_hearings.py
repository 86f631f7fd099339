"""Points 14 to 16: used houses, their signs, and tables in either kind."""

import itertools

from oldnews.errors import BadHouse, NotSigned
from oldnews.hearings import (
    lean_web, same_tables, table_as_rows, table_as_terms, used_hearings,
)
from oldnews.tables import table_of
from oldnews.webs import Web
from tests.support import VAST, Case, all_states, digit_at, image_of, some_webs

EXAMPLE = ("rows", (0, 1, 2), (0, 0, 0, 0, 1, 1, 0, 0))


def web_with(row, size=3):
    return Web([row] + [("rows", (), (0,))] * (size - 1))


def sign_in(row, size, house):
    """The sign of a heard house, or None if it is not used (point 14)."""
    changes = set()
    for state in all_states(size):
        if state[house] == 0:
            on = state[:house] + (1,) + state[house + 1:]
            changes.add(digit_at(row, on) - digit_at(row, state))
    changes.discard(0)
    if not changes:
        return None
    return 0 if len(changes) == 2 else changes.pop()


def hearings_in(row, size):
    signs = [(house, sign_in(row, size, house)) for house in range(size)]
    return tuple(pair for pair in signs if pair[1] is not None)


def tables_webs():
    for size in (1, 2, 3, 5):
        yield from some_webs(size, 25)


class UsedHearingsTest(Case):
    def test_example(self):
        self.assertRow(used_hearings(web_with(EXAMPLE), 0), ((0, 1), (1, -1)))

    def test_against_switching(self):
        for web in tables_webs():
            for house, row in enumerate(web.rows()):
                self.assertRow(used_hearings(web, house), hearings_in(row, web.size))

    def test_all_tables_of_two_houses(self):
        for bits in itertools.product((0, 1), repeat=4):
            row = ("rows", (0, 2), bits)
            self.assertRow(used_hearings(web_with(row), 0), hearings_in(row, 3))

    def test_three_signs(self):
        self.assertRow(used_hearings(web_with(("rows", (1,), (0, 1))), 0), ((1, 1),))
        self.assertRow(used_hearings(web_with(("rows", (1,), (1, 0))), 0), ((1, -1),))
        self.assertRow(used_hearings(web_with(("rows", (1, 2), (0, 1, 1, 0))), 0),
                       ((1, 0), (2, 0)))

    def test_houses_that_are_not_used(self):
        self.assertRow(used_hearings(web_with(("rows", (0, 2), (1, 1, 1, 1))), 0), ())
        self.assertRow(used_hearings(web_with(("terms", ((0, 1), (1, -1)), ((1,),))), 0),
                       ((1, -1),))
        self.assertRow(used_hearings(web_with(("terms", ((0, 1),), ((),))), 0), ())

    def test_four_heard_houses(self):
        bits = tuple(1 if k in (15, 7) else 0 for k in range(16))
        web = web_with(("rows", (1, 4, 7, 11), bits), 12)
        self.assertRow(used_hearings(web, 0), ((4, 1), (7, 1), (11, 1)))


class KindsTest(Case):
    def test_table_as_rows(self):
        self.assertRow(table_as_rows(web_with(EXAMPLE), 0), EXAMPLE)
        web = web_with(("terms", ((0, 1), (2, -1)), ((0,), (2,))))
        self.assertRow(table_as_rows(web, 0), ("rows", (0, 2), (1, 0, 1, 1)))

    def test_the_same_digits_and_heard_houses(self):
        for web in tables_webs():
            for house, row in enumerate(web.rows()):
                found = table_as_rows(web, house)
                self.assertFrozen(found)
                self.assertEqual(found[:2], ("rows", web.hears(house)))
                table_of(found, web.size)
                for state in all_states(web.size):
                    self.assertEqual(digit_at(found, state), digit_at(row, state))

    def test_example_as_terms(self):
        self.assertRow(table_as_terms(web_with(EXAMPLE), 0),
                       ("terms", ((0, 1), (1, -1)), ((0, 1),)))

    def test_constant_tables(self):
        for heard in ((), (1,), (0, 2)):
            many = 2 ** len(heard)
            self.assertRow(table_as_terms(web_with(("rows", heard, (0,) * many)), 0),
                           ("terms", (), ()))
            self.assertRow(table_as_terms(web_with(("rows", heard, (1,) * many)), 0),
                           ("terms", (), ((),)))

    def test_terms_against_the_digits(self):
        kept = 0
        for web in tables_webs():
            for house, row in enumerate(web.rows()):
                hearings = hearings_in(row, web.size)
                unsigned = [heard for heard, sign in hearings if sign == 0]
                if unsigned:
                    self.refused(NotSigned, table_as_terms, web, house,
                                 house=house, heard=unsigned[0])
                    continue
                kept += 1
                found = table_as_terms(web, house)
                self.assertFrozen(found)
                self.assertEqual(found[:2], ("terms", hearings))
                table_of(found, web.size)
                for state in all_states(web.size):
                    self.assertEqual(digit_at(found, state), digit_at(row, state))
        self.assertGreater(kept, 50)

    def test_several_terms_in_order(self):
        # Lamp 0 off, or lamps 1 and 2 on.
        web = web_with(("rows", (0, 1, 2), (1, 1, 1, 1, 0, 0, 0, 1)))
        self.assertRow(table_as_terms(web, 0),
                       ("terms", ((0, -1), (1, 1), (2, 1)), ((0,), (1, 2))))
        # Two of three lamps on.
        web = web_with(("rows", (0, 1, 2), (0, 0, 0, 1, 0, 1, 1, 1)))
        self.assertRow(table_as_terms(web, 0)[2], ((0, 1), (0, 2), (1, 2)))

    def test_first_house_of_sign_0(self):
        # The digit is 1 if lamp 0 is on and the lamps 1 and 2 differ.
        row = ("rows", (0, 1, 2), (0, 0, 0, 0, 0, 1, 1, 0))
        web = Web([("rows", (), (0,)), row, row])
        self.assertRow(used_hearings(web, 1), ((0, 1), (1, 0), (2, 0)))
        self.refused(NotSigned, table_as_terms, web, 1, house=1, heard=1)
        self.refused(NotSigned, table_as_terms, web, 2, house=2, heard=1)

    def test_terms_stay_terms(self):
        row = ("terms", ((0, 1), (1, -1), (2, 1)), ((0, 1), (0, 2), (1, 2)))
        self.assertRow(table_as_terms(web_with(row), 0), row)


class LeanWebTest(Case):
    def test_example(self):
        self.assertRow(lean_web(web_with(EXAMPLE)).rows()[0], ("rows", (0, 1), (0, 0, 1, 0)))

    def test_the_used_houses_and_the_same_digits(self):
        for web in tables_webs():
            before = web.rows()
            lean = lean_web(web)
            self.assertIs(lean.__class__, Web)
            self.assertRow(web.rows(), before)
            for row, found in zip(before, lean.rows()):
                heard = tuple(house for house, sign in hearings_in(row, web.size))
                self.assertEqual(found[:2], ("rows", heard))
            for state in all_states(web.size):
                self.assertEqual(lean.image(state), image_of(before, state))


class SameTablesTest(Case):
    def test_other_kinds_and_houses_that_are_not_used(self):
        web = web_with(EXAMPLE)
        self.assertTruth(same_tables(web, lean_web(web)), True)
        self.assertTruth(same_tables(web, web.with_table(0, table_as_terms(web, 0))), True)
        for other in tables_webs():
            for house in range(other.size):
                same = other.with_table(house, table_as_rows(other, house))
                self.assertTruth(same_tables(other, same), True)

    def test_against_images(self):
        webs = some_webs(1, 12) + some_webs(2, 12, most=1)
        for web, other in itertools.product(webs, repeat=2):
            wanted = web.size == other.size and all(
                web.image(state) == other.image(state) for state in all_states(web.size))
            self.assertTruth(same_tables(web, other), wanted)

    def test_sizes(self):
        row = ("rows", (), (1,))
        self.assertTruth(same_tables(Web([row]), Web([row, row])), False)
        self.assertTruth(same_tables(Web([row, row]), Web([row])), False)


class ArgumentsTest(Case):
    def test_houses(self):
        for call in (used_hearings, table_as_rows, table_as_terms):
            for house in (-1, 3, VAST):
                self.refused(BadHouse, call, web_with(EXAMPLE), house, house=house)
