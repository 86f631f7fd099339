"""Points 69 and 70: states that can meet, and groups that tell fates apart."""

import itertools

from oldnews.errors import BadState, TooLarge
from oldnews.meeting import can_meet, telling_groups
from oldnews.newsearch import reached_by_news
from oldnews.webs import Web
from tests.support import (
    COPIES, OPPOSITES, Case, all_groups, all_states, bad_states, both_webs, copying_web,
)
from tests.test_endings import copies_behind
from tests.test_fates import fates_by_news


def tells(fates, group):
    return all(any({one[house], other[house]} == {0, 1} for house in group)
               for one, other in itertools.combinations(fates, 2))


class MeetingTest(Case):
    def test_examples(self):
        web = Web(OPPOSITES)
        self.assertTruth(self.unchanged(can_meet, web, (0, 1), (1, 0)), False)
        self.assertTruth(self.unchanged(can_meet, web, (0, 0), (1, 0)), True)
        self.assertTruth(can_meet(web, (0, 1), (1, 1)), True)
        self.assertTruth(can_meet(web, (0, 1), (0, 1)), True)
        self.assertTruth(can_meet(Web(COPIES), (0, 0), (1, 1)), False)

    def test_against_what_states_reach(self):
        apart = 0
        for size, many in ((1, 8), (2, 20), (3, 8), (4, 2)):
            for web in both_webs(size, many, seed=51):
                for state in all_states(size):
                    for other in all_states(size)[::1 if size < 4 else 3]:
                        common = set(reached_by_news(web, state)) & set(reached_by_news(web, other))
                        self.assertTruth(can_meet(web, state, other), len(common) > 0)
                        apart += not common
        self.assertGreater(apart, 50)

    def test_limits_in_order(self):
        # Lamp 0 turns for ever if one of the lamps from 6 on is on; the houses behind it follow.
        for size in (8, 12):
            rows = [("rows", (0, size - 1), (0, 1, 1, 0))]
            rows += [("rows", (house - 1,), (0, 1)) for house in range(1, size - 1)]
            web = Web(rows + [("rows", (size - 1,), (0, 1))])
            turning, resting = (0,) * (size - 1) + (1,), (0,) * size
            for state, other in ((turning, resting), (resting, turning), (turning, turning)):
                self.refused(TooLarge, can_meet, web, state, other, count=size - 1, limit=6)
            self.assertTruth(can_meet(web, resting, resting), True)

    def test_the_first_state_first(self):
        # In the state `state` 7 houses become free, and in the state `other` 8.
        web = Web([("rows", (11,), (1, 0))] * 8 + [("rows", (house,), (0, 1))
                                                   for house in range(8, 12)])
        first, second = (1,) + (0,) * 11, (0,) * 12
        self.refused(TooLarge, can_meet, web, first, second, count=7, limit=6)
        self.refused(TooLarge, can_meet, web, second, first, count=8, limit=6)
        six = (1, 1) + (0,) * 10
        self.refused(TooLarge, can_meet, web, six, second, count=8, limit=6)
        self.assertTruth(can_meet(web, six, (0, 0) + (1,) * 6 + (0,) * 4), True)

    def test_arguments(self):
        for web in (Web(COPIES), copies_behind(12, 12)):
            state = (0,) * web.size
            self.checked(can_meet, [web, state, state],
                         (1, BadState, "row", bad_states(web.size)),
                         (2, BadState, "row", bad_states(web.size)))


class TellingTest(Case):
    def test_examples(self):
        self.assertRow(self.unchanged(telling_groups, Web(OPPOSITES), (0, 0)), ((0,), (1,)))
        self.assertRow(telling_groups(Web(OPPOSITES), (0, 1)), ((),))
        # The one fate of the state has a free house.
        self.assertRow(telling_groups(copies_behind(3, 2), (0, 0, 1)), ((),))
        # Two pairs of opposites have four ends together.
        web = Web(OPPOSITES + (("rows", (3,), (1, 0)), ("rows", (2,), (1, 0))))
        self.assertRow(telling_groups(web, (0, 0, 0, 0)), ((0, 2), (0, 3), (1, 2), (1, 3)))
        self.assertRow(telling_groups(web, (0, 1, 0, 0)), ((2,), (3,)))

    def test_against_all_groups(self):
        sizes = set()
        for size, many in ((1, 8), (2, 20), (3, 20), (4, 4)):
            for web in both_webs(size, many, seed=52):
                for state in all_states(size):
                    fates = fates_by_news(web, state)
                    groups = [group for group in all_groups(size) if tells(fates, group)]
                    self.assertIn(tuple(range(size)), groups)
                    least = min(len(group) for group in groups)
                    self.assertRow(telling_groups(web, state),
                                   tuple(group for group in groups if len(group) == least))
                    sizes.add(least)
        self.assertLessEqual({0, 1, 2, 3}, sizes)

    def test_twelve_houses(self):
        # Three pairs of opposites, and six houses that copy one of them each.
        rows = [("rows", (house ^ 1,), (1, 0)) for house in range(6)]
        web = Web(rows + [("rows", (house,), (0, 1)) for house in range(6, 12)])
        self.assertRow(telling_groups(web, (0,) * 12), tuple(
            itertools.product((0, 1), (2, 3), (4, 5))))

    def test_limit(self):
        for size in (7, 12):
            self.assertRow(telling_groups(copies_behind(size, 6), (0,) * size), ((),))
            for free in (7, size):
                self.refused(TooLarge, telling_groups, copies_behind(size, free), (0,) * size,
                             count=free, limit=6)
        self.assertRow(telling_groups(copying_web(12), (1,) * 12), ((),))

    def test_arguments(self):
        for web in (Web(COPIES), copies_behind(12, 12)):
            self.checked(telling_groups, [web, (0,) * web.size],
                         (1, BadState, "row", bad_states(web.size)))
