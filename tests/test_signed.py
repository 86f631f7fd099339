"""Points 89 and 90: signed webs, and webs that keep them."""

import itertools

from oldnews.errors import BadSigns, BadSize
from oldnews.hearings import used_hearings
from oldnews.signed import as_signs, keeps_signs, signs_of
from oldnews.webs import Web
from tests.support import (
    BAD_SIGNS, COPIES, VAST, Case, all_signs, constant_web, keeps_by_states, listed, some_signs,
    some_webs,
)


class AsSignsTest(Case):
    def test_rows_become_tuples(self):
        signs = (((0, 1), (1, -1)), (), ((2, 0),))
        self.assertRow(self.unchanged(as_signs, signs), signs)
        self.assertRow(as_signs([[[0, 1], (1, -1)], (), ([2, 0],)]), signs)
        self.assertRow(as_signs(([],)), ((),))

    def test_all_small_signed_webs(self):
        for size in (1, 2):
            for signs in all_signs(size):
                self.assertRow(as_signs(listed(signs)), signs)

    def test_the_number_of_houses(self):
        for size in range(1, 13):
            last = tuple((house, 1) for house in range(max(0, size - 4), size))
            signs = ((),) * (size - 1) + (last,)
            self.assertRow(as_signs(listed(signs)), signs)
        for size in (0, 13, 14, 100):
            self.refused(BadSize, as_signs, ((),) * size, count=size)
            # The number of the houses comes before their hearings.
            self.refused(BadSize, as_signs, [[[-1, 5]]] * size, count=size)

    def test_four_hearings_and_more(self):
        four = tuple((house, -1) for house in range(4))
        five = tuple((house, -1) for house in range(5))
        self.assertRow(as_signs((four,) * 5), (four,) * 5)
        self.refused(BadSigns, as_signs, (four, five) + (four,) * 3, house=1)
        self.refused(BadSigns, as_signs, (tuple((house, 1) for house in range(12)),) * 12, house=0)

    def test_wrong_hearings(self):
        for signs, error, name, value in BAD_SIGNS:
            self.refused(error, as_signs, signs, **{name: value})
            self.refused(error, as_signs, listed(signs), **{name: value})
        good = ((0, 1), (2, -1))
        for wrong in (((0, 1), (0, 1)), ((0, 1), (0, -1)), ((2, 1), (0, 1)), ((3, 1),), ((-1, 1),),
                      ((0, 2),), ((0, -2),), ((0, VAST),), ((VAST, 1),), ((-VAST, 1),)):
            for house in range(3):
                signs = [good] * 3
                signs[house] = wrong
                self.refused(BadSigns, as_signs, signs, house=house)
                # The first house that does not fit decides.
                self.refused(BadSigns, as_signs, signs[:house + 1] + [((9, 9),)] * (2 - house),
                             house=house)


class SignsOfTest(Case):
    def test_used_hearings(self):
        web = Web((("rows", (0, 1, 2), (0, 0, 0, 0, 1, 1, 0, 0)), ("rows", (0, 1), (0, 1, 1, 0)),
                   ("terms", ((0, 1), (2, -1)), ((2,),))))
        self.assertRow(signs_of(web), (((0, 1), (1, -1)), ((0, 0), (1, 0)), ((2, -1),)))
        self.assertRow(signs_of(constant_web(12)), ((),) * 12)
        for size in (1, 2, 4, 12):
            for web in some_webs(size, 10, seed=96):
                self.assertRow(signs_of(web), tuple(used_hearings(web, house)
                                                    for house in range(size)))
                self.assertRow(as_signs(signs_of(web)), signs_of(web))
                self.assertTruth(keeps_signs(web, signs_of(web)), True)


class KeepsTest(Case):
    def test_signs(self):
        copying, turning = ("rows", (0,), (0, 1)), ("terms", ((0, -1),), ((0,),))
        both = ("rows", (0, 1), (0, 1, 1, 0))
        never = ("rows", (0, 1), (1, 1, 1, 1))
        for row, hearings, wanted in (
                (copying, ((0, 1),), True), (copying, ((0, -1),), False),
                (copying, ((0, 0),), True), (copying, ((1, 1),), False), (copying, (), False),
                (copying, ((0, 1), (1, -1)), True), (turning, ((0, 1),), False),
                (turning, ((0, -1), (1, 0)), True), (turning, ((0, 0),), True),
                (both, ((0, 0), (1, 0)), True), (both, ((0, 0), (1, 1)), False),
                (both, ((0, 0),), False), (never, (), True), (never, ((1, -1),), True)):
            web = Web((row, ("rows", (), (1,))))
            self.assertTruth(self.unchanged(keeps_signs, web, (hearings, ())), wanted)
            web = Web((("rows", (), (1,)), row))
            self.assertTruth(keeps_signs(web, ((), hearings)), wanted)

    def test_another_number_of_houses(self):
        for size, other in itertools.permutations((1, 2, 3, 12), 2):
            self.assertTruth(keeps_signs(constant_web(size), ((),) * other), False)
            self.assertTruth(keeps_signs(constant_web(size), ((),) * size), True)

    def test_against_all_states_of_the_lamps(self):
        found = set()
        for size, many in ((1, 10), (2, 30), (3, 40), (4, 40)):
            signed = all_signs(size)[::5] if size < 3 else some_signs(size, 10, seed=97, most=4)
            for web in some_webs(size, many, seed=98, most=2):
                for signs in signed:
                    for row, hearings in zip(web.rows(), signs):
                        alone = Web([row] * size)
                        wanted = keeps_by_states(row, hearings, size)
                        self.assertTruth(keeps_signs(alone, [hearings] * size), wanted)
                    wanted = all(keeps_by_states(row, hearings, size)
                                 for row, hearings in zip(web.rows(), signs))
                    self.assertTruth(keeps_signs(web, signs), wanted)
                    found.add((size, wanted))
        self.assertLessEqual({(2, True), (2, False), (3, False), (3, True)}, found)

    def test_arguments(self):
        self.checked_signs(lambda signs: keeps_signs(Web(COPIES), signs), [((), ())])
        self.checked_signs(lambda signs: keeps_signs(constant_web(12), signs), [((), ())])
