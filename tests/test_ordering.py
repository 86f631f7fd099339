"""Points 18 and 19: orders, and reordered rooms, groups and webs."""

import random

from oldnews.errors import BadGroup, BadOrder, BadRoom
from oldnews.ordering import inverse_order, reordered_group, reordered_row, reordered_web
from oldnews.tables import table_of
from oldnews.webs import Web
from tests.support import (
    VAST, Case, all_groups, all_orders, all_rooms, all_states, some_webs,
)

NO_ORDERS = [(), tuple(range(13)), (1,), (0, 0), (0, 2), (-1, 0), (0, 1, 3), (0, VAST)]


class OrderTest(Case):
    def test_inverse(self):
        self.assertRow(self.unchanged(inverse_order, (2, 0, 1)), (1, 2, 0))
        for order in all_orders(4):
            inverse = inverse_order(order)
            self.assertFrozen(inverse)
            for new, old in enumerate(order):
                self.assertEqual(inverse[old], new)
            self.assertEqual(inverse_order(inverse), order)

    def test_sizes(self):
        for size in range(1, 13):
            order = tuple(range(size))[::-1]
            self.assertRow(inverse_order(order), order)
            self.assertRow(reordered_row(order, (0,) * (size - 1) + (1,)), (1,) + (0,) * (size - 1))
            self.assertRow(reordered_group(order, (0,)), (size - 1,))

    def test_rows(self):
        self.assertRow(self.unchanged(reordered_row, (2, 0, 1), (0, 1, 2)), (2, 0, 1))
        for order in all_orders(3):
            for room in all_rooms(3):
                self.assertRow(reordered_row(order, room), tuple(room[old] for old in order))

    def test_groups(self):
        self.assertRow(self.unchanged(reordered_group, (2, 0, 1), (0, 2)), (0, 1))
        for order in all_orders(4):
            for group in all_groups(4):
                wanted = tuple(sorted(order.index(house) for house in group))
                self.assertRow(reordered_group(order, group), wanted)
                marks = tuple(1 if house in group else 0 for house in range(4))
                self.assertEqual(reordered_row(order, marks),
                                 tuple(1 if house in wanted else 0 for house in range(4)))

    def test_no_orders(self):
        for order in NO_ORDERS:
            self.refused(BadOrder, inverse_order, order, row=order)
            self.refused(BadOrder, reordered_row, list(order), (9,), row=order)
            self.refused(BadOrder, reordered_group, order, (9,), row=order)

    def test_no_rows_and_groups(self):
        for row in ((), (0,), (0, 1, 2), (0, 3), (-1, 0)):
            self.refused(BadRoom, reordered_row, (1, 0), row, row=row)
        for group in ((2,), (1, 0), (0, 0), (-1,), (VAST,)):
            self.refused(BadGroup, reordered_group, (1, 0), list(group), row=group)


class ReorderedWebTest(Case):
    def test_bits_are_arranged_anew(self):
        web = Web([("rows", (1, 2), (0, 1, 0, 0)), ("rows", (0,), (0, 1)), ("rows", (), (1,))])
        # House 0 gives 1 if lamp 1 is off and lamp 2 is on; the new numbers are
        # 2 for house 0, 1 for house 1 and 0 for house 2.
        self.assertRow(reordered_web((2, 1, 0), web).rows(), (
            ("rows", (), (1,)), ("rows", (2,), (0, 1)), ("rows", (0, 1), (0, 0, 1, 0))))

    def test_terms_are_arranged_anew(self):
        row = ("terms", ((0, 1), (1, -1), (2, 1)), ((0, 1), (2,)))
        web = Web([row, ("terms", ((2, -1),), ((2,),)), ("terms", ((0, 1),), ((),))])
        self.assertRow(reordered_web((2, 0, 1), web).rows(), (
            ("terms", ((1, 1),), ((),)),
            ("terms", ((0, 1), (1, 1), (2, -1)), ((0,), (1, 2))),
            ("terms", ((0, -1),), ((0,),))))

    def test_images_and_kinds(self):
        for size in (1, 2, 3, 4):
            for web in some_webs(size, 6):
                before = web.rows()
                for order in all_orders(size):
                    other = reordered_web(order, web)
                    self.assertFrozen(other.rows())
                    for new, old in enumerate(order):
                        self.assertEqual(other.rows()[new][0], before[old][0])
                        self.assertEqual(other.hears(new),
                                         reordered_group(order, web.hears(old)))
                    for state in all_states(size):
                        self.assertEqual(other.image(reordered_row(order, state)),
                                         reordered_row(order, web.image(state)))
                self.assertRow(web.rows(), before)

    def test_signs_and_terms_stay(self):
        for web in some_webs(4, 20):
            for order in all_orders(4)[::5]:
                for new, old in enumerate(order):
                    kind, heard, body = web.rows()[old]
                    if kind == "terms":
                        found = reordered_web(order, web).rows()[new]
                        table_of(found, 4)
                        self.assertEqual([(order[house], sign) for house, sign in found[1]],
                                         sorted(heard, key=lambda pair: order.index(pair[0])))
                        self.assertEqual(
                            sorted(sorted(order[house] for house in term) for term in found[2]),
                            sorted(list(term) for term in body))

    def test_there_and_back(self):
        rng = random.Random(3)
        for size in (5, 12):
            for web in some_webs(size, 5):
                order = rng.sample(range(size), size)
                back = reordered_web(inverse_order(order), reordered_web(order, web))
                self.assertRow(back.rows(), web.rows())

    def test_arguments(self):
        web = some_webs(2, 1)[0]
        for order in NO_ORDERS + [(0,), (0, 1, 2)]:
            self.refused(BadOrder, reordered_web, list(order), web, row=order)
