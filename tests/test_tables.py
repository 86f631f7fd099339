"""Points 6 to 10: table rows of both kinds."""

import itertools
import random

from oldnews.errors import BadTable
from oldnews.tables import RowsTable, Table, TermsTable, table_of
from tests.support import (
    VAST, Case, all_rooms, all_states, bits_row, digit_at, listed, states_in_room, terms_row,
)

FIVE = tuple(range(5))


def some_rows(size, many=40):
    rng = random.Random(size)
    return [make(rng, size) for _ in range(many) for make in (bits_row, terms_row)]


class TableTest(Case):
    def test_classes(self):
        rows = table_of(("rows", (0,), (0, 1)), 1)
        terms = table_of(("terms", ((0, 1),), ((0,),)), 1)
        self.assertIs(rows.__class__, RowsTable)
        self.assertIs(terms.__class__, TermsTable)
        self.assertIsInstance(rows, Table)
        self.assertIsInstance(terms, Table)

    def test_example_of_rows(self):
        table = table_of(("rows", (0, 2), (0, 1, 1, 1)), 3)
        for state in all_states(3):
            self.assertRow(table.value(state), 1 if state[0] == 1 or state[2] == 1 else 0)

    def test_example_of_terms(self):
        table = table_of(("terms", ((0, 1), (2, -1)), ((0,), (2,))), 3)
        for state in all_states(3):
            self.assertRow(table.value(state), 1 if state[0] == 1 or state[2] == 0 else 0)

    def test_most_significant_bit(self):
        table = table_of(("rows", (0, 1, 3), (0, 0, 0, 0, 1, 0, 0, 0)), 4)
        self.assertEqual([state for state in all_states(4) if table.value(state) == 1],
                         [(1, 0, 0, 0), (1, 0, 1, 0)])

    def test_values_and_rows(self):
        for size in (1, 2, 4, 6):
            for row in some_rows(size):
                table = table_of(row, size)
                self.assertRow(table.as_row(), row)
                for state in all_states(size):
                    self.assertRow(table.value(state), digit_at(row, state))
                    self.assertEqual(table.value(list(state)), digit_at(row, state))

    def test_takes(self):
        for size in (1, 3, 4):
            for row in some_rows(size, 15):
                table = table_of(row, size)
                for room, digit in itertools.product(all_rooms(size), (0, 1)):
                    wanted = digit in [digit_at(row, state) for state in states_in_room(room)]
                    self.assertTruth(table.takes(room, digit), wanted)
                    self.assertTruth(table.takes(list(room), digit), wanted)

    def test_heard(self):
        self.assertRow(table_of(["rows", [1, 3], [0, 1, 1, 0]], 4).heard, (1, 3))
        self.assertRow(table_of(["terms", [[1, -1], [3, 1]], []], 4).heard, (1, 3))
        self.assertRow(table_of(("rows", (), (1,)), 1).heard, ())
        self.assertRow(table_of(("terms", (), ()), 1).heard, ())

    def test_no_heard_house(self):
        for digit in (0, 1):
            self.assertRow(table_of(("rows", (), (digit,)), 2).value((0, 1)), digit)

    def test_no_terms_and_the_empty_term(self):
        for heard in ((), ((0, 1),), ((0, -1), (1, 1))):
            for terms, digit in (((), 0), (((),), 1)):
                table = table_of(("terms", heard, terms), 2)
                self.assertEqual([table.value(state) for state in all_states(2)], [digit] * 4)

    def test_four_heard_houses(self):
        bits = (0, 1, 1, 0, 1, 0, 0, 1, 1, 1, 0, 0, 1, 0, 1, 0)
        table = table_of(("rows", (0, 2, 3, 11), bits), 12)
        self.assertRow(table.as_row(), ("rows", (0, 2, 3, 11), bits))
        state = (1,) + (0,) * 2 + (1,) + (0,) * 8
        self.assertEqual(table.value(state), bits[8 + 2])
        hearings = ((0, 1), (2, -1), (3, 1), (11, -1))
        table = table_of(("terms", hearings, ((0, 2), (3, 11))), 12)
        self.assertEqual(table.value((0,) * 12), 0)
        self.assertEqual(table.value((0,) * 3 + (1,) + (0,) * 8), 1)

    def test_lists_are_copied(self):
        for row in some_rows(4, 10):
            given = listed(row)
            table = table_of(given, 4)
            given[1].clear()
            given[2].clear()
            self.assertRow(table.as_row(), row)
            self.assertEqual([table.value(state) for state in all_states(4)],
                             [digit_at(row, state) for state in all_states(4)])

    def test_inner_lists_are_copied(self):
        given = ["terms", [[0, 1], [1, -1]], [[0, 1]]]
        table = table_of(given, 2)
        given[1][0][1] = -1
        given[2][0].pop()
        self.assertRow(table.as_row(), ("terms", ((0, 1), (1, -1)), ((0, 1),)))

    def test_arguments_stay(self):
        for row in some_rows(3, 10):
            given = listed(row)
            table_of(given, 3)
            self.assertEqual(given, listed(row))


class BadTableTest(Case):
    def bad(self, row, part, size=6):
        self.refused(BadTable, table_of, row, size, part=part)
        self.refused(BadTable, table_of, listed(row), size, part=part)

    def test_kind(self):
        for kind in ("", "row", "Rows", "rows ", "term", "web"):
            self.bad((kind, (), (1,)), "kind")

    def test_heard_of_rows(self):
        for heard in ((6,), (-1,), (VAST,), (-VAST,), (1, 0), (1, 1), (0, 2, 2), (0, 6)):
            self.bad(("rows", heard, (0,) * 2 ** len(heard)), "heard")

    def test_heard_depends_on_the_size(self):
        table_of(("rows", (11,), (0, 1)), 12)
        self.bad(("rows", (11,), (0, 1)), "heard", size=11)
        self.bad(("terms", ((1, 1),), ()), "heard", size=1)

    def test_five_heard_houses(self):
        table_of(("rows", FIVE[:4], (0,) * 16), 6)
        self.bad(("rows", FIVE, (0,) * 32), "heard")
        table_of(("terms", tuple((house, 1) for house in FIVE[:4]), ()), 6)
        self.bad(("terms", tuple((house, 1) for house in FIVE), ()), "heard")

    def test_heard_of_terms(self):
        for heard in ((6,), (-1,), (VAST,), (1, 0), (1, 1)):
            self.bad(("terms", tuple((house, 1) for house in heard), ()), "heard")

    def test_signs(self):
        for sign in (0, 2, -2, VAST):
            self.bad(("terms", ((0, 1), (2, sign)), ()), "heard")
            self.bad(("terms", ((0, sign),), ((0,),)), "heard")

    def test_bits(self):
        for heard in ((), (0,), (0, 1), (0, 1, 2, 3)):
            many = 2 ** len(heard)
            for bits in ((), (0,) * (many - 1), (0,) * (many + 1), (0,) * (many - 1) + (2,),
                         (-1,) + (1,) * (many - 1), (VAST,) * many):
                self.bad(("rows", heard, bits), "bits")

    def test_terms_of_houses_that_are_not_heard(self):
        for term in ((1,), (0, 1), (0, 6), (-1,), (VAST,)):
            self.bad(("terms", ((0, 1), (2, 1)), (term,)), "terms")
        self.bad(("terms", (), ((0,),)), "terms")

    def test_terms_that_are_no_groups(self):
        for term in ((2, 0), (0, 0), (0, 2, 2)):
            self.bad(("terms", ((0, 1), (2, 1)), (term,)), "terms")

    def test_order_of_terms(self):
        heard = ((0, 1), (1, 1), (2, 1))
        table_of(("terms", heard, ((0, 1), (0, 2), (1, 2))), 6)
        self.bad(("terms", heard, ((0, 2), (0, 1))), "terms")
        self.bad(("terms", heard, ((1,), (0,))), "terms")
        self.bad(("terms", heard, ((0,), (0,))), "terms")
        self.bad(("terms", heard, ((), ())), "terms")

    def test_terms_that_contain_others(self):
        heard = ((0, 1), (1, 1), (2, 1))
        for terms in (((), (0,)), ((0,), (0, 1)), ((0, 1), (1,)), ((0, 1, 2), (0, 2)),
                      ((0,), (1, 2), (2,))):
            self.bad(("terms", heard, terms), "terms")

    def test_two_faults(self):
        self.bad(("nothing", (9,), (7,)), "kind")
        self.bad(("rows", (9,), (7,)), "heard")
        self.bad(("rows", (1, 0), ()), "heard")
        self.bad(("terms", ((0, 1), (9, 1)), ((5,),)), "heard")
        self.bad(("terms", ((0, 3),), ((5,), (0,))), "heard")
        self.bad(("terms", ((0, 3), (0, 1)), ((1, 0),)), "heard")
