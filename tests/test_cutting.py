"""Point 96: groups that meet the rings of a parity, and how many ends there can be."""

import itertools

from oldnews.allwebs import all_webs, web_count
from oldnews.cutting import least_cuts, meets_rings, most_ends
from oldnews.errors import BadDigit, BadGroup, TooLarge
from oldnews.minimal import minimal_rooms
from oldnews.signed import signs_of
from tests.support import VAST, Case, all_groups, all_signs, bad_groups, some_signs, some_webs
from tests.test_rings import EXAMPLE, circle_signs, products, rings_by_hand


def rings_with(signs, parity):
    return [ring for ring in rings_by_hand(signs) if (-1 if parity else 1) in products(signs, ring)]


class CuttingTest(Case):
    def test_examples(self):
        self.assertTruth(self.unchanged(meets_rings, EXAMPLE, (0,), 0), False)
        self.assertTruth(self.unchanged(meets_rings, EXAMPLE, (1,), 0), True)
        self.assertTruth(meets_rings(EXAMPLE, (0,), 1), False)
        self.assertTruth(meets_rings(EXAMPLE, (0, 1), 1), True)
        self.assertRow(self.unchanged(least_cuts, EXAMPLE, 0), ((1,),))
        self.assertRow(least_cuts(EXAMPLE, 1), ((1,),))
        self.assertRow(self.unchanged(most_ends, EXAMPLE), 2)
        self.assertRow(least_cuts(circle_signs(3), 1), ((0,), (1,), (2,)))

    def test_no_ring_of_the_parity(self):
        for size in range(1, 7):
            for parity in (0, 1):
                self.assertTruth(meets_rings(((),) * size, (), parity), True)
                self.assertRow(least_cuts(((),) * size, parity), ((),))
            self.assertRow(most_ends(((),) * size), 1)
            self.assertRow(least_cuts(circle_signs(size), 0), ((),))
            self.assertRow(most_ends(circle_signs(size)), 1)

    def test_against_all_groups(self):
        sizes = set()
        for signs in all_signs(1) + all_signs(2)[::2] + some_signs(3, 20, seed=112) + some_signs(
                4, 12, seed=113, most=4) + some_signs(6, 2, seed=114, most=4):
            groups = all_groups(len(signs))
            for parity in (0, 1):
                found = rings_with(signs, parity)
                meeting = [group for group in groups
                           if all(set(ring) & set(group) for ring in found)]
                for group in groups:
                    self.assertTruth(self.unchanged(meets_rings, signs, group, parity),
                                     group in meeting)
                least = min(map(len, meeting))
                self.assertRow(self.unchanged(least_cuts, signs, parity),
                               tuple(group for group in meeting if len(group) == least))
                sizes.add(least)
                if parity == 0:
                    self.assertRow(self.unchanged(most_ends, signs), 2 ** least)
        self.assertLessEqual({0, 1, 2, 3}, sizes)

    def test_six_houses_of_their_own(self):
        signs = tuple(((house, 1),) for house in range(6))
        self.assertRow(least_cuts(signs, 0), ((0, 1, 2, 3, 4, 5),))
        self.assertRow(least_cuts(signs, 1), ((),))
        self.assertRow(most_ends(signs), 64)

    def test_limit(self):
        for size in (7, 12):
            for parity in (0, 1):
                signs = ((),) * size
                self.refused(TooLarge, meets_rings, signs, (), parity, count=size, limit=6)
                self.refused(TooLarge, least_cuts, signs, parity, count=size, limit=6)
            self.refused(TooLarge, most_ends, signs, count=size, limit=6)

    def test_arguments(self):
        for signs in (EXAMPLE, EXAMPLE + ((),) * 10):
            digits = [2, -1, VAST, -VAST]
            if len(signs) == 2:
                self.checked_signs(most_ends, [signs])
            self.checked_signs(meets_rings, [signs, (0,), 1],
                               (1, BadGroup, "row", bad_groups(len(signs))),
                               (2, BadDigit, "digit", digits))
            self.checked_signs(least_cuts, [signs, 1], (1, BadDigit, "digit", digits))


class EndsTest(Case):
    def test_all_webs_of_small_signed_webs(self):
        many = set()
        for signs in all_signs(1) + all_signs(2)[::5] + some_signs(3, 40, seed=115, most=2):
            if web_count(signs) <= 256:
                most = most_ends(signs)
                groups = [group for group in all_groups(len(signs))
                          if meets_rings(signs, group, 0)]
                for web in all_webs(signs):
                    many.add(self.check_ends(minimal_rooms(web), most, groups))
        self.assertLessEqual({1, 2, 4}, many)

    def test_larger_webs(self):
        for web in some_webs(5, 20, seed=116, most=2):
            signs = signs_of(web)
            groups = [group for group in all_groups(5) if meets_rings(signs, group, 0)]
            self.check_ends(minimal_rooms(web), most_ends(signs), groups)

    def check_ends(self, ends, most, groups):
        self.assertLessEqual(len(ends), most)
        for end, other in itertools.combinations(ends, 2):
            for group in groups:
                self.assertTrue(any({end[house], other[house]} == {0, 1} for house in group))
        return len(ends)
