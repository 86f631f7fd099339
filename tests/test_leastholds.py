"""Points 85 to 87: the least holds, and what each pair of a hold is good for."""

import random

from oldnews.errors import BadGroup, BadHold, BadState, TooLarge
from oldnews.leastholds import holds_of, least_holds, why_not
from oldnews.webs import Web
from tests.support import (
    COPIES, OPPOSITES, VAST, Case, all_groups, all_holds, all_states, bad_groups, bad_holds,
    bad_states, both_webs, constant_web, copying_web, some_webs,
)
from tests.test_showing import ends_by_hand, showing


class HoldsOfTest(Case):
    def test_example(self):
        self.assertRow(self.unchanged(holds_of, Web(COPIES), (1,), 1), (((1, 0),), ((1, 1),)))
        self.assertRow(holds_of(Web(COPIES), (0, 1), 2), (
            ((0, 0), (1, 0)), ((0, 0), (1, 1)), ((0, 1), (1, 0)), ((0, 1), (1, 1))))
        self.assertRow(holds_of(Web(COPIES), (0, 1), 1),
                       (((0, 0),), ((0, 1),), ((1, 0),), ((1, 1),)))

    def test_all_groups_and_counts(self):
        for size in (1, 2, 3, 4):
            web = constant_web(size)
            for group in all_groups(size):
                for count in (-VAST, -1, 0, 1, 2, 3, 4, 5, VAST):
                    wanted = tuple(hold for hold in all_holds(size, group) if len(hold) == count)
                    self.assertRow(self.unchanged(holds_of, web, group, count), wanted)
                self.assertRow(holds_of(web, group, 0), ((),))
                self.assertRow(holds_of(web, group, len(group) + 1), ())

    def test_limit(self):
        self.assertEqual(len(holds_of(constant_web(4), (0, 1, 2, 3), 2)), 24)
        for size in (5, 12):
            for count in (-1, 0, 1, VAST):
                self.refused(TooLarge, holds_of, constant_web(size), (0,), count, count=size,
                             limit=4)

    def test_arguments(self):
        for web in (Web(COPIES), constant_web(12)):
            for count in (-VAST, 0, VAST):
                for group in bad_groups(web.size):
                    self.refused(BadGroup, holds_of, web, list(group), count, row=group)


class LeastHoldsTest(Case):
    def test_examples(self):
        web = Web(OPPOSITES)
        self.assertRow(self.unchanged(least_holds, web, ((0, 1),)), (((1, 0),),))
        self.assertRow(least_holds(web, ((0, 1),), group=(0, 1)), (((0, 1),), ((1, 0),)))
        self.assertRow(least_holds(web, ((0, 1),), group=(0,)), (((0, 1),),))
        self.assertRow(least_holds(web, ((0, 1),), group=()), ())
        # All ends show it already.
        self.assertRow(self.unchanged(least_holds, web, ((0, 1),), start=(1, 0)), ((),))
        self.assertRow(least_holds(web, ()), ((),))
        # With the houses of what is to be shown left out, no house is left.
        self.assertRow(least_holds(web, ((0, 1), (1, 0))), ())
        self.assertRow(least_holds(web, ((0, 1), (1, 0)), start=(1, 0)), ((),))
        self.assertRow(least_holds(web, ((0, 1),), most=0), ())
        self.assertRow(least_holds(web, ((0, 1),), most=1), (((1, 0),),))
        self.assertRow(least_holds(web, (), most=-1), ())

    def test_two_and_three_pairs(self):
        # Lamp 3 is on for good only if the lamps 0 to 2 are.
        rows = [("rows", (house,), (0, 1)) for house in range(3)]
        web = Web(rows + [("rows", (0, 1, 2), (0,) * 7 + (1,))])
        three = (((0, 1), (1, 1), (2, 1)),)
        for most in (3, 4, VAST):
            self.assertRow(least_holds(web, ((3, 1),), most=most), three)
        for most in (2, 1, 0, -1, -VAST):
            self.assertRow(least_holds(web, ((3, 1),), most=most), ())
        self.assertRow(least_holds(web, ((3, 1),)), ())
        self.assertRow(least_holds(web, ((3, 1),), start=(0, 1, 0, 0)), (((0, 1), (2, 1)),))
        self.assertRow(least_holds(web, ((3, 1),), start=(0, 1, 0, 0), most=1), ())
        self.assertRow(least_holds(web, ((3, 0),)), (((0, 0),), ((1, 0),), ((2, 0),)))
        self.assertRow(least_holds(web, ((3, 0),), group=(1, 3)), (((1, 0),), ((3, 0),)))
        # The hold with houses of the group may change what is to be shown.
        self.assertRow(least_holds(web, ((0, 1), (3, 1)), group=(0, 3)), (((0, 1), (3, 1)),))

    def test_against_all_holds(self):
        rng = random.Random(90)
        counts = set()
        for size, many in ((1, 8), (2, 16), (3, 10), (4, 1)):
            for web in both_webs(size, many, seed=91):
                cases = [(shown, start, group) for shown in rng.sample(all_holds(size), 2)
                         for start in [None] + rng.sample(all_states(size), 1)
                         for group in [None] + rng.sample(all_groups(size), 1)]
                for shown, start, group in cases:
                    wanted = least_by_hand(web, shown, start, group)
                    counts.add(len(wanted[0]) if wanted else -1)
                    for most in (-1, 0, 1, 2, 3, 4, VAST):
                        enough = [hold for hold in wanted if len(hold) <= most]
                        self.assertRow(self.unchanged(least_holds, web, shown, start=start,
                                                      group=group, most=most), tuple(enough))
                    self.assertEqual(least_holds(web, shown, start=start, group=group),
                                     least_holds(web, shown, start=start, group=group, most=2))
        self.assertLessEqual({-1, 0, 1, 2}, counts)

    def test_limit(self):
        self.assertRow(least_holds(copying_web(4), ((0, 1),), group=(0,)), (((0, 1),),))
        for size in (5, 12):
            for most in (-1, 2):
                for shown in ((), ((0, 0),)):
                    self.refused(TooLarge, lambda: least_holds(constant_web(size), shown,
                                                               most=most), count=size, limit=4)
                    self.refused(TooLarge, lambda: least_holds(
                        constant_web(size), shown, start=(0,) * size, group=()),
                        count=size, limit=4)

    def test_arguments(self):
        for web in (Web(COPIES), constant_web(12)):
            def asked(shown, start, group):
                return least_holds(web, shown, start=start, group=group)
            self.checked(asked, [(), (0,) * web.size, (0,)],
                         (0, BadHold, "row", bad_holds(web.size)),
                         (1, BadState, "row", bad_states(web.size)),
                         (2, BadGroup, "row", bad_groups(web.size)))
            self.checked(lambda shown: least_holds(web, shown), [()],
                         (0, BadHold, "row", bad_holds(web.size)))


def least_by_hand(web, shown, start, group):
    """The holds of point 86 without the bound `most`, found among all holds."""
    if group is None:
        asked = [house for house, _ in shown]
        group = [house for house in range(web.size) if house not in asked]
    found = [hold for hold in all_holds(web.size, group)
             if all(showing(end, shown) for end in ends_by_hand(web, hold, start))]
    return [hold for hold in found if len(hold) == min(map(len, found))]


class WhyNotTest(Case):
    def test_examples(self):
        web = Web(OPPOSITES)
        self.assertRow(self.unchanged(why_not, web, ((0, 1),), ((1, 0),)), ((0, 1),))
        self.assertRow(why_not(web, ((0, 1),), ((0, 1), (1, 0))), (None, None))
        self.assertRow(why_not(web, ((0, 1),), ()), ())
        self.assertRow(self.unchanged(why_not, web, ((0, 1),), ((1, 0),), start=(1, 0)), (None,))
        self.assertRow(why_not(web, ((0, 0), (1, 1)), ((0, 0), (1, 0))), ((1, 0), None))

    def test_against_all_rooms(self):
        rng = random.Random(92)
        failing = 0
        for size, many in ((1, 6), (2, 10), (3, 8), (4, 1)):
            for web in both_webs(size, many, seed=93):
                for hold in rng.sample(all_holds(size), 3):
                    for shown in rng.sample(all_holds(size), 3):
                        for start in [None] + rng.sample(all_states(size), 1):
                            wanted = []
                            for pair in hold:
                                less = tuple(other for other in hold if other != pair)
                                wrong = [end for end in ends_by_hand(web, less, start)
                                         if not showing(end, shown)]
                                wanted.append(wrong[0] if wrong else None)
                            failing += sum(end is not None for end in wanted)
                            self.assertRow(self.unchanged(why_not, web, shown, hold, start=start),
                                           tuple(wanted))
        self.assertGreater(failing, 50)

    def test_limit(self):
        self.assertRow(why_not(copying_web(4), (), ((0, 1),)), (None,))
        for size in (5, 12):
            for hold in ((), ((0, 1),)):
                self.refused(TooLarge, why_not, constant_web(size), (), hold, count=size, limit=4)

    def test_arguments(self):
        for web in (Web(COPIES), constant_web(12)):
            def asked(shown, hold, start):
                return why_not(web, shown, hold, start=start)
            self.checked(asked, [(), (), (0,) * web.size],
                         (0, BadHold, "row", bad_holds(web.size)),
                         (1, BadHold, "row", bad_holds(web.size)),
                         (2, BadState, "row", bad_states(web.size)))
            for hold in bad_holds(web.size):
                self.refused(BadHold, why_not, web, hold, ((0, 5),), row=hold)
        web = some_webs(3, 1)[0]
        before = web.rows()
        why_not(web, ((0, 1),), ((1, 1), (2, 0)))
        self.assertRow(web.rows(), before)
