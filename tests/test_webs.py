"""Points 1 to 3, 9, 11 and 12: webs, their digits and images."""

import itertools

from oldnews.errors import (
    BadDigit, BadHouse, BadRoom, BadSize, BadState, BadTable, BadWeb, OldNewsError,
)
from oldnews.tables import RowsTable, TermsTable
from oldnews.webs import Web
from tests.support import (
    OPPOSITES, VAST, Case, all_rooms, all_states, digit_at, image_of, listed, some_webs,
    states_in_room,
)

GOOD = ("rows", (), (1,))
MIXED = (("rows", (0, 1), (0, 1, 1, 0)), ("terms", ((0, 1), (1, -1)), ((0,), (1,))))


class MakingTest(Case):
    def test_attributes(self):
        web = Web(MIXED)
        self.assertEqual(web.size, 2)
        self.assertIs(web.tables.__class__, tuple)
        self.assertEqual([table.__class__ for table in web.tables], [RowsTable, TermsTable])
        self.assertRow(web.rows(), MIXED)
        self.assertEqual(Web.MOST, 12)
        self.assertEqual(web.MOST, 12)

    def test_sizes(self):
        for size in range(1, 13):
            web = Web([("rows", (size - 1,), (0, 1))] * size)
            self.assertRow(web.size, size)
            self.assertEqual(len(web.tables), size)

    def test_lists_are_copied(self):
        given = listed(MIXED)
        web = Web(given)
        self.assertEqual(given, listed(MIXED))
        given[0][2][0] = 1
        given[1][1][0][1] = -1
        given[1][2].clear()
        given.pop()
        self.assertRow(web.rows(), MIXED)
        self.assertRow(web.image((0, 1)), image_of(MIXED, (0, 1)))

    def test_bad_size(self):
        self.refused(BadSize, Web, (), count=0)
        self.refused(BadSize, Web, [], count=0)
        self.refused(BadSize, Web, [GOOD] * 13, count=13)
        self.refused(BadSize, Web, [GOOD] * 40, count=40)

    def test_bad_size_comes_before_bad_tables(self):
        self.refused(BadSize, Web, [("none", (), ())] + [GOOD] * 12, count=13)

    def test_bad_web(self):
        rows = [GOOD, ("rows", (3,), (0, 1)), ("kind", (), ())]
        fault = self.refused(BadWeb, Web, rows, house=1, part="heard")
        self.assertIs(fault.__cause__.__class__, BadTable)
        self.assertEqual(fault.__cause__.part, "heard")
        self.assertIsInstance(fault, OldNewsError)

    def test_each_part(self):
        for row, part in ((("x", (), ()), "kind"), (("rows", (2,), (0, 1)), "heard"),
                          (("rows", (), (2,)), "bits"), (("terms", (), ((0,),)), "terms")):
            fault = self.refused(BadWeb, Web, (GOOD, row), house=1, part=part)
            self.assertEqual(fault.__cause__.part, part)
            self.refused(BadWeb, Web, (row, GOOD), house=0, part=part)


class DigitsTest(Case):
    def test_values_and_images(self):
        for size in (1, 2, 3, 5):
            for web in some_webs(size, 10):
                rows = web.rows()
                for state in all_states(size):
                    self.assertRow(self.unchanged(web.image, state), image_of(rows, state))
                    for house in range(size):
                        self.assertRow(web.value(house, list(state)), digit_at(rows[house], state))

    def test_takes(self):
        for web in some_webs(3, 10):
            for house, room, digit in itertools.product(range(3), all_rooms(3), (0, 1)):
                wanted = digit in [web.value(house, state) for state in states_in_room(room)]
                self.assertTruth(self.unchanged(web.takes, house, room, digit), wanted)

    def test_hears(self):
        web = Web((("rows", (0, 2), (0,) * 4), ("terms", ((1, -1),), ()), GOOD))
        self.assertRow(web.hears(0), (0, 2))
        self.assertRow(web.hears(1), (1,))
        self.assertRow(web.hears(2), ())

    def test_twelve_houses(self):
        web = Web([("rows", ((house + 1) % 12,), (0, 1)) for house in range(12)])
        self.assertRow(web.image((1,) + (0,) * 11), (0,) * 11 + (1,))
        self.assertTruth(web.takes(11, (2,) + (0,) * 11, 1), True)


class WithTableTest(Case):
    def test_one_table_differs(self):
        web = Web(MIXED)
        other = web.with_table(1, ["rows", [0], [1, 0]])
        self.assertIs(other.__class__, Web)
        self.assertRow(other.rows(), (MIXED[0], ("rows", (0,), (1, 0))))
        self.assertRow(web.rows(), MIXED)
        self.assertRow(web.with_table(0, MIXED[1]).rows(), (MIXED[1], MIXED[1]))

    def test_the_list_is_copied(self):
        row = ["terms", [[0, 1]], [[0]]]
        other = Web(MIXED).with_table(0, row)
        self.assertEqual(row, ["terms", [[0, 1]], [[0]]])
        row[2].clear()
        self.assertRow(other.rows()[0], ("terms", ((0, 1),), ((0,),)))

    def test_bad_table(self):
        web = Web(MIXED)
        for row, part in ((("x", (), ()), "kind"), (("rows", (2,), (0, 1)), "heard"),
                          (("rows", (), ()), "bits"), (("terms", (), ((0,),)), "terms")):
            self.refused(BadTable, web.with_table, 1, row, part=part)
        self.refused(BadHouse, web.with_table, 2, ("x", (), ()), house=2)
        self.assertRow(web.rows(), MIXED)


class ArgumentsTest(Case):
    def test_houses(self):
        web = Web(OPPOSITES)
        for house in (-1, 2, 12, VAST, -VAST):
            self.refused(BadHouse, web.hears, house, house=house)
            self.refused(BadHouse, web.value, house, (0, 5), house=house)
            self.refused(BadHouse, web.takes, house, (0, 5), 7, house=house)
            self.refused(BadHouse, web.with_table, house, OPPOSITES[0], house=house)

    def test_states(self):
        web = Web(OPPOSITES)
        for row in ((), (0,), (0, 0, 0), (0, 2), (-1, 0), (0, VAST)):
            self.refused(BadState, web.value, 0, row, row=row)
            self.refused(BadState, web.image, row, row=row)
            self.refused(BadState, web.image, list(row), row=row)

    def test_rooms(self):
        web = Web(OPPOSITES)
        for row in ((), (0,), (0, 0, 2), (0, 3), (-1, 0), (0, VAST)):
            self.refused(BadRoom, web.takes, 0, list(row), 9, row=row)

    def test_digits(self):
        web = Web(OPPOSITES)
        for digit in (-1, 2, VAST):
            self.refused(BadDigit, web.takes, 0, (0, 2), digit, digit=digit)

    def test_errors_change_nothing(self):
        web = Web(OPPOSITES)
        tables = web.tables
        self.refused(BadHouse, web.hears, 2, house=2)
        self.refused(BadTable, web.with_table, 0, ("rows", (), ()), part="bits")
        self.assertIs(web.tables, tables)
        self.assertRow(web.rows(), OPPOSITES)
