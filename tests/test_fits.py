"""Point 106: the tables and the webs that fit."""

import random

from oldnews.errors import BadHouse, Quarrel, TooLarge
from oldnews.fits import fit_count, fit_tables, fits
from oldnews.signed import keeps_signs
from oldnews.webs import Web
from tests.support import (
    VAST, Case, all_signs, any_sightings, fits_by_states, fitting_by_states, listed,
    quarrels_by_hand, some_signs, true_sightings,
)

SIGNS = (((0, 1), (1, -1)), ((0, 0),))
QUARREL = ((0, (1, 0), 0), (0, (0, 0), 1))


def rows_of_fits(signs, seen):
    return [web.rows() for web in fits(signs, seen)]


def small_cases(seed, most=2):
    """Small signed webs with sightings that do not quarrel."""
    rng = random.Random(seed)
    signed = all_signs(1) + all_signs(2)[::5] + some_signs(3, 25, seed=seed, most=most)
    return [(signs, true_sightings(rng, signs, count)) for signs in signed for count in (0, 2, 5)]


class FitsTest(Case):
    def test_examples(self):
        seen = ((0, (0, 0), 0), (1, (1, 1), 1))
        self.assertRow(self.unchanged(fit_tables, SIGNS, seen, 0), (
            ("rows", (0, 1), (0, 0, 0, 0)), ("rows", (0, 1), (0, 0, 1, 0)),
            ("rows", (0, 1), (0, 0, 1, 1))))
        self.assertRow(fit_tables(SIGNS, seen, 1), (("rows", (0,), (0, 1)), ("rows", (0,), (1, 1))))
        self.assertRow(self.unchanged(fit_count, SIGNS, seen), 6)
        found = list(fits(SIGNS, seen))
        self.assertTrue(all(web.__class__ is Web for web in found))
        self.assertEqual([web.rows() for web in found], [
            (("rows", (0, 1), bits), ("rows", (0,), others))
            for bits in ((0, 0, 0, 0), (0, 0, 1, 0), (0, 0, 1, 1))
            for others in ((0, 1), (1, 1))])

    def test_against_all_webs(self):
        counts = set()
        for signs, seen in small_cases(150):
            wanted = fits_by_states(signs, seen)
            choices = fitting_by_states(signs, seen)
            counts.add(len(wanted))
            for house in range(len(signs)):
                self.assertRow(self.unchanged(fit_tables, signs, seen, house),
                               tuple(choices[house]))
            self.assertRow(self.unchanged(fit_count, signs, seen), len(wanted))
            if len(wanted) > 256:
                self.refused(TooLarge, rows_of_fits, signs, seen, count=len(wanted), limit=256)
                continue
            found = self.unchanged(rows_of_fits, signs, seen)
            self.assertEqual(found, wanted)
            for rows in found:
                self.assertFrozen(rows)
                web = Web(rows)
                self.assertTruth(keeps_signs(web, signs), True)
                for house, state, digit in seen:
                    self.assertEqual(web.value(house, state), digit)
        self.assertGreater(len(counts), 20)
        self.assertGreater(max(counts), 256)

    def test_quarrels(self):
        rng = random.Random(151)
        many = 0
        for signs in all_signs(2)[::9] + some_signs(3, 15, seed=152, most=2):
            seen = any_sightings(rng, signs, 6)
            found = sorted(quarrels_by_hand(signs, seen))
            if found:
                many += 1
                first, second = found[0]
                for call, args in ((fit_tables, (0,)), (fit_tables, (len(signs) - 1,)),
                                   (fit_count, ()), (rows_of_fits, ())):
                    self.refused(Quarrel, call, signs, seen, *args, first=first, second=second)
        self.assertGreater(many, 20)


class LimitTest(Case):
    def test_hearings(self):
        three = tuple((house, 1) for house in range(3))
        four = tuple((house, 1) for house in range(4))
        signs = (three, four, (), three)
        self.assertEqual(len(fit_tables(signs, (), 0)), 20)
        self.assertEqual(len(fit_tables(signs, ((1, (0,) * 4, 1),), 2)), 2)
        self.refused(TooLarge, fit_tables, signs, (), 1, count=4, limit=3)
        for call in (fit_count, rows_of_fits):
            self.refused(TooLarge, call, signs, (), count=4, limit=3)
        self.assertRow(fit_count((three,) * 4, ()), 20 ** 4)

    def test_the_limits_come_before_a_quarrel(self):
        state, four = (0,) * 4, tuple((house, 1) for house in range(4))
        seen = ((1, state, 0), (1, state, 1))
        for signs in ((four, (), (), ()), ((), four, (), ())):
            house = signs.index(four)
            self.refused(TooLarge, fit_tables, signs, seen, house, count=4, limit=3)
            self.refused(Quarrel, fit_tables, signs, seen, 2, first=1, second=0)
            for call in (fit_count, rows_of_fits):
                self.refused(TooLarge, call, signs, seen, count=4, limit=3)

    def test_256_webs_and_more(self):
        self.assertEqual(len(rows_of_fits(((),) * 8, ())), 256)
        self.refused(TooLarge, rows_of_fits, ((),) * 9, (), count=512, limit=256)
        # A sighting leaves half of the webs.
        self.assertEqual(len(rows_of_fits(((),) * 9, ((4, (1,) * 9, 0),))), 256)
        three = tuple((house, 0) for house in range(3))
        signs = (three, (), ())
        self.refused(TooLarge, rows_of_fits, signs, ((0, (0, 0, 1), 1),), count=512, limit=256)
        seen = ((0, (0, 0, 1), 1), (0, (0, 1, 1), 0))
        self.assertEqual(len(rows_of_fits(signs, seen)), 256)
        # With a quarrel no web fits, so that this limit is met.
        self.refused(Quarrel, rows_of_fits, ((),) * 12, ((3, (0,) * 12, 0), (3, (1,) * 12, 1)),
                     first=1, second=0)


class ArgumentsTest(Case):
    def test_errors_only_when_it_is_iterated(self):
        four = tuple((house, 1) for house in range(4))
        for signs, seen in (((), ()), (SIGNS, ((0, (0,), 1),)), ((four,) * 4, ()),
                            (((),) * 9, ()), (SIGNS, QUARREL)):
            generator = fits(signs, seen)
            with self.assertRaises(ValueError):
                next(generator)
        self.refused(Quarrel, next, fits(SIGNS, QUARREL), first=1, second=0)

    def test_arguments(self):
        houses = (2, BadHouse, "house", [2, -1, VAST, -VAST])
        self.checked_seen(fit_tables, [SIGNS, (), 0], houses)
        self.checked_seen(fit_count, [SIGNS, ()])
        self.checked_seen(rows_of_fits, [SIGNS, ()])
        self.quarrel_at_last(fit_tables, [SIGNS, QUARREL, 1], houses)
        self.quarrel_at_last(fit_count, [SIGNS, QUARREL])
        four = (tuple((house, 0) for house in range(4)),) * 4
        self.checked_seen(fit_tables, [four, (), 0], (2, BadHouse, "house", [4, -1]))
        self.checked_seen(fit_count, [four, ()])
        self.checked_seen(rows_of_fits, [four, ()])

    def test_nothing_changes(self):
        signs, seen = listed(SIGNS), [[0, [0, 1], 1]]
        rows_of_fits(signs, seen)
        self.assertEqual((signs, seen), (listed(SIGNS), [[0, [0, 1], 1]]))
