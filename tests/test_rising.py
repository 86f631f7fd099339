"""Point 97: turned signed webs, and groups at which no ring is left that can be odd."""

from oldnews.errors import BadGroup
from oldnews.rising import rising_group, turned_signs
from oldnews.signed import keeps_signs, signs_of
from oldnews.turning import turned_web
from oldnews.webs import Web
from tests.support import (
    Case, all_groups, all_signs, bad_groups, listed, some_signs, some_webs,
)
from tests.test_hearers import pieces_by_groups
from tests.test_rings import EXAMPLE, circle_signs, products, rings_by_hand


def turned_by_hand(signs, group):
    turned = set(group)
    return tuple(tuple(
        (heard, -sign if len(turned & {house}) != len(turned & {heard}) else sign)
        for heard, sign in hearings) for house, hearings in enumerate(signs))


def pieces_of_signs(signs):
    """The pieces, found in a web in which the same houses are heard."""
    rows = [("terms", tuple((heard, 1) for heard, _ in hearings), ()) for hearings in signs]
    return pieces_by_groups(Web(rows))


def rising_by_hand(signs):
    """The group of point 97, found among all groups, or None."""
    if any(-1 in products(signs, ring) for ring in rings_by_hand(signs)):
        return None
    pieces = pieces_of_signs(signs)
    inner = {(house, heard) for piece in pieces for house in piece for heard in piece}
    found = []
    for group in all_groups(len(signs)):
        turned = turned_by_hand(signs, group)
        told = [sign for house, hearings in enumerate(turned) for heard, sign in hearings
                if (house, heard) in inner]
        if all(sign == 1 for sign in told) and not set(group) & {min(piece) for piece in pieces}:
            found.append(group)
    return found[0] if len(found) == 1 else found


class TurnedTest(Case):
    def test_examples(self):
        signs = (((0, -1), (1, 1), (2, 0)), ((0, -1), (1, 1)), ())
        self.assertRow(self.unchanged(turned_signs, signs, (0,)),
                       (((0, -1), (1, -1), (2, 0)), ((0, 1), (1, 1)), ()))
        self.assertRow(turned_signs(signs, (0, 1)), signs)
        self.assertRow(turned_signs(signs, (2,)), signs)
        self.assertRow(turned_signs(signs, ()), signs)
        self.assertRow(turned_signs(signs, (1, 2)), (
            ((0, -1), (1, -1), (2, 0)), ((0, 1), (1, 1)), ()))

    def test_all_groups(self):
        for signs in all_signs(1) + all_signs(2)[::2] + some_signs(4, 15, seed=120, most=4):
            for group in all_groups(len(signs)):
                turned = self.unchanged(turned_signs, signs, group)
                self.assertRow(turned, turned_by_hand(signs, group))
                self.assertRow(turned_signs(turned, group), signs)

    def test_turned_webs_keep_them(self):
        for size in (2, 3, 4):
            for web in some_webs(size, 8, seed=121):
                for group in all_groups(size):
                    turned = turned_web(web, group)
                    self.assertRow(turned_signs(signs_of(web), group), signs_of(turned))
                    for signs in some_signs(size, 5, seed=122, most=4):
                        self.assertTruth(keeps_signs(turned, turned_signs(signs, group)),
                                         keeps_signs(web, signs))

    def test_arguments(self):
        for signs in (EXAMPLE, circle_signs(12)):
            self.checked_signs(turned_signs, [signs, (0,)],
                               (1, BadGroup, "row", bad_groups(len(signs))))


class RisingTest(Case):
    def test_examples(self):
        self.assertRow(self.unchanged(rising_group, EXAMPLE), None)
        self.assertRow(self.unchanged(rising_group, (((1, -1),), ((0, -1),))), (1,))
        self.assertRow(rising_group((((1, 1),), ((0, 1),))), ())
        self.assertRow(rising_group((((0, 1),),)), ())
        self.assertRow(rising_group((((0, -1),),)), None)
        self.assertRow(rising_group((((0, 0),),)), None)
        # Between two pieces every sign may stay.
        self.assertRow(rising_group((((1, -1),), ((1, 1),), ((0, 0), (1, -1)))), ())

    def test_pieces_that_are_not_in_the_order_of_the_houses(self):
        # The piece of the houses 1 and 3 comes first, since house 0 hears house 1.
        signs = (((1, 1), (2, -1)), ((3, -1),), ((0, -1),), ((1, -1),))
        self.assertEqual(pieces_of_signs(signs), ((1, 3), (0, 2)))
        self.assertRow(rising_group(signs), (2, 3))

    def test_against_all_groups(self):
        kinds = set()
        for signs in all_signs(1) + all_signs(2) + some_signs(3, 60, seed=123, most=2) + some_signs(
                4, 60, seed=124, most=2) + some_signs(5, 15, seed=125, most=2):
            wanted = rising_by_hand(signs)
            found = self.unchanged(rising_group, signs)
            self.assertRow(found, wanted)
            kinds.add(found if found is None else len(found))
        self.assertLessEqual({None, 0, 1, 2}, kinds)

    def test_turned_at_any_group(self):
        # Signed webs in which all signs are 1, turned, come to rise again.
        for size in (3, 4):
            for given in some_signs(size, 20, seed=126):
                signs = tuple(tuple((heard, 1) for heard, _ in hearings) for hearings in given)
                self.assertRow(rising_group(signs), ())
                for group in all_groups(size):
                    turned = turned_signs(signs, group)
                    self.assertRow(rising_group(turned), rising_by_hand(turned))

    def test_no_limit(self):
        signs = circle_signs(12)
        self.assertRow(rising_group(signs), None)
        # A second ring with the signs -1 and 1 is odd, too.
        self.assertRow(rising_group((((1, -1), (11, 1)),) + signs[1:]), None)
        # A circle with two signs -1 and a piece of one house behind it.
        signs = [[[10, -1]]] + [[[house - 1, -1 if house == 4 else 1]] for house in range(1, 11)]
        self.assertRow(rising_group(signs + [[[0, 0], [11, 1]]]), (4, 5, 6, 7, 8, 9, 10))
        self.assertRow(rising_group(signs + [[[0, 0], [11, -1]]]), None)
        signs[7] = [[6, 0]]
        self.assertRow(rising_group(listed(signs)), None)

    def test_arguments(self):
        self.checked_signs(rising_group, [EXAMPLE])
