"""Point 91: the tables and the webs that keep a signed web."""

import itertools

from oldnews.allwebs import all_webs, tables_of, web_count
from oldnews.errors import BadHouse, TooLarge
from oldnews.signed import keeps_signs
from oldnews.webs import Web
from tests.support import (
    BAD_SIGNS, VAST, Case, all_signs, listed, some_signs, tables_by_states, webs_by_states,
)


def rows_of_all(signs):
    return [web.rows() for web in all_webs(signs)]


class TablesTest(Case):
    def test_examples(self):
        signs = (((0, 1), (1, -1)), (), ((2, 0),))
        self.assertRow(self.unchanged(tables_of, signs, 0), tuple(
            ("rows", (0, 1), bits) for bits in (
                (0, 0, 0, 0), (0, 0, 1, 0), (0, 0, 1, 1), (1, 0, 1, 0), (1, 0, 1, 1),
                (1, 1, 1, 1))))
        self.assertRow(tables_of(signs, 1), (("rows", (), (0,)), ("rows", (), (1,))))
        self.assertRow(tables_of(signs, 2), tuple(
            ("rows", (2,), bits) for bits in ((0, 0), (0, 1), (1, 0), (1, 1))))

    def test_against_all_table_rows(self):
        for signs in all_signs(1) + all_signs(2)[::3] + some_signs(3, 6, seed=100):
            for house, hearings in enumerate(signs):
                self.assertRow(self.unchanged(tables_of, signs, house),
                               tuple(tables_by_states(hearings, len(signs))))

    def test_numbers_of_tables(self):
        # Tables of three lamps that never change the digit down, and all of them.
        for sign, count in ((1, 20), (-1, 20), (0, 256)):
            signs = (tuple((house, sign) for house in (1, 5, 11)),) + ((),) * 11
            self.assertEqual(len(tables_of(signs, 0)), count)
            self.assertEqual(tables_of(signs, 0)[0], ("rows", (1, 5, 11), (0,) * 8))
            self.assertRow(tuple(sorted(set(tables_of(signs, 0)))), tables_of(signs, 0))

    def test_limit(self):
        three = tuple((house, 0) for house in range(3))
        four = tuple((house, 1) for house in range(4))
        signs = (three, four, (), three)
        self.assertEqual(len(tables_of(signs, 0)), 256)
        self.assertEqual(len(tables_of(signs, 2)), 2)
        self.refused(TooLarge, tables_of, signs, 1, count=4, limit=3)

    def test_arguments(self):
        four = tuple((house, 1) for house in range(4))
        for signs in (((), ()), (four,) * 4):
            self.checked_signs(tables_of, [signs, 0],
                               (1, BadHouse, "house", [len(signs), -1, VAST, -VAST]))


class CountTest(Case):
    def test_product(self):
        self.assertRow(web_count((((0, 1),), ((0, -1), (1, 0)))), 3 * len(tables_by_states(
            ((0, -1), (1, 0)), 2)))
        for signs in all_signs(1) + all_signs(2)[::7] + some_signs(3, 6, seed=101):
            wanted = 1
            for hearings in signs:
                wanted *= len(tables_by_states(hearings, len(signs)))
            self.assertRow(self.unchanged(web_count, signs), wanted)

    def test_large_counts(self):
        three = tuple((house, 0) for house in (2, 7, 9))
        self.assertRow(web_count((three,) * 12), 256 ** 12)
        self.assertRow(web_count(((),) * 12), 2 ** 12)

    def test_limit(self):
        three = tuple((house, 1) for house in range(3))
        four = tuple((house, 1) for house in range(4))
        self.assertRow(web_count((three,) * 4), 20 ** 4)
        for signs in ((four,) * 4, (three, (), three, four), ((),) * 11 + (four,)):
            self.refused(TooLarge, web_count, signs, count=4, limit=3)
            self.refused(TooLarge, rows_of_all, signs, count=4, limit=3)

    def test_arguments(self):
        self.checked_signs(web_count, [((),)])


class AllWebsTest(Case):
    def test_examples(self):
        found = list(all_webs([[[0, 1]]]))
        self.assertTrue(all(web.__class__ is Web for web in found))
        self.assertEqual([web.rows() for web in found], [
            (("rows", (0,), bits),) for bits in ((0, 0), (0, 1), (1, 1))])
        for web in found:
            self.assertFrozen(web.rows())

    def test_each_web_once_and_in_order(self):
        for signs in all_signs(1) + all_signs(2)[::3] + some_signs(3, 20, seed=102, most=1):
            if web_count(signs) <= 256:
                found = rows_of_all(signs)
                self.assertEqual(found, webs_by_states(signs))
                self.assertEqual(found, sorted(set(found)))
                self.assertEqual(rows_of_all(listed(signs)), found)
                for rows in found:
                    self.assertTruth(keeps_signs(Web(rows), signs), True)
            else:
                self.refused(TooLarge, rows_of_all, signs, count=web_count(signs), limit=256)

    def test_256_webs_and_more(self):
        three = tuple((house, 0) for house in range(3))
        none = ((),) * 8
        self.assertEqual(len(rows_of_all(none)), 256)
        # One house with 20 tables, and others.
        signs = (tuple((house, 1) for house in range(3)), (), ((0, 1),), ())
        self.assertEqual(len(rows_of_all(signs)), 240)
        self.refused(TooLarge, rows_of_all, ((),) * 9, count=512, limit=256)
        self.refused(TooLarge, rows_of_all, (three, (), ()), count=1024, limit=256)
        signs = (tuple((house, 1) for house in range(3)), ((0, 0),), ((0, 0),))
        self.refused(TooLarge, rows_of_all, signs, count=320, limit=256)
        self.refused(TooLarge, rows_of_all, (three,) * 12, count=256 ** 12, limit=256)

    def test_errors_only_when_it_is_iterated(self):
        four = tuple((house, 1) for house in range(4))
        for signs, error, name, value in BAD_SIGNS + (
                ((four,) * 4, TooLarge, "count", 4), (((),) * 9, TooLarge, "count", 512)):
            generator = all_webs(signs)
            self.refused(error, next, generator, **{name: value})

    def test_as_a_generator(self):
        generator = all_webs(((), ((0, 1),)))
        self.assertEqual(next(generator).rows(), (("rows", (), (0,)), ("rows", (0,), (0, 0))))
        self.assertEqual(len(list(generator)), 5)
        self.assertEqual(len(list(itertools.islice(all_webs(((),) * 8), 3))), 3)
