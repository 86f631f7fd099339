"""Points 49 and 50: which houses move."""

import random

from oldnews.errors import BadGroup, BadState, NeverReached, TooLarge
from oldnews.moving import fewest_movers, must_move, reaches_within
from oldnews.newsearch import reached_by_news
from oldnews.reaching import reach_run, reaches
from oldnews.runs import changed_houses, run_states
from oldnews.serving import serves
from oldnews.striking import strike_in_order, strikes
from oldnews.webs import Web
from tests.support import (
    COPIES, OPPOSITES, Case, all_groups, all_states, bad_groups, bad_states, constant_web,
    frozen_web, some_webs,
)
from tests.test_newsearch import runs_from
from tests.test_striking import rounds_by_hand


class WithinTest(Case):
    def test_examples(self):
        web = Web(OPPOSITES)
        self.assertTruth(self.unchanged(reaches_within, web, (0, 0), (1, 0), (0,)), True)
        self.assertTruth(self.unchanged(reaches_within, web, (0, 0), (1, 0), (1,)), False)
        self.assertTruth(reaches_within(web, (0, 0), (1, 1), (0, 1)), True)
        self.assertTruth(reaches_within(web, (0, 0), (1, 1), (0,)), False)

    def test_against_runs_in_which_only_the_group_moves(self):
        for size, many in ((1, 6), (2, 12), (3, 5)):
            for web in some_webs(size, many, seed=15):
                for start in all_states(size):
                    for group in all_groups(size):
                        states = reached_by_news(frozen_web(web, start, group), start)
                        for goal in all_states(size):
                            self.assertTruth(reaches_within(web, start, goal, group),
                                             goal in states)

    def test_against_runs_of_the_web_itself(self):
        for web in some_webs(2, 8, seed=16):
            for start in all_states(2):
                for goal, run in runs_from(web, start).items():
                    group = changed_houses(run_states(web, start, run))
                    self.assertTruth(reaches_within(web, start, goal, group), True)

    def test_against_groups_and_rounds(self):
        for web in some_webs(3, 4, seed=17):
            for start in all_states(3)[::2]:
                for goal in all_states(3):
                    serving = [set(group) for group in all_groups(3)
                               if serves(web, start, goal, group)]
                    for group in all_groups(3):
                        found = reaches_within(web, start, goal, group)
                        self.assertEqual(found, any(part <= set(group) for part in serving))
                        room = rounds_by_hand(web, start, goal, group)[-1][1]
                        self.assertEqual(found, all(mark in (2, digit)
                                                    for mark, digit in zip(room, goal)))

    def test_the_empty_group_and_all_houses(self):
        for web in some_webs(3, 6, seed=18) + some_webs(12, 2, seed=18):
            size = web.size
            rng = random.Random(size)
            for _ in range(30):
                start, goal = rng.choice(all_states(size)), rng.choice(all_states(size))
                self.assertTruth(reaches_within(web, start, goal, ()), start == goal)
                self.assertTruth(reaches_within(web, start, start, ()), True)
                self.assertTruth(reaches_within(web, start, goal, tuple(range(size))),
                                 reaches(web, start, goal))

    def test_struck_houses_do_not_move(self):
        struck_and_reached = 0
        for web in some_webs(3, 20, seed=19):
            for start in all_states(3)[::3]:
                for goal in reached_by_news(web, start):
                    struck = {house for made in strikes(web, start, goal) for house in made[2]}
                    struck.update(strike_in_order(web, start, goal, (2, 0, 1))[0])
                    struck_and_reached += len(struck)
                    moved = changed_houses(run_states(web, start, reach_run(web, start, goal)))
                    self.assertFalse(struck & set(moved))
                    for house in struck:
                        # Every run to the goal is one in which the house does not move.
                        rest = tuple(other for other in range(3) if other != house)
                        self.assertTruth(reaches_within(web, start, goal, rest), True)
                        self.assertNotIn(house, must_move(web, start, goal))
        self.assertGreater(struck_and_reached, 10)

    def test_arguments(self):
        for web in (Web(COPIES), constant_web(12)):
            state = (0,) * web.size
            self.checked(reaches_within, [web, state, state, (0, 1)],
                         (1, BadState, "row", bad_states(web.size)),
                         (2, BadState, "row", bad_states(web.size)),
                         (3, BadGroup, "row", bad_groups(web.size)))


class MoversTest(Case):
    def test_example(self):
        web = Web(OPPOSITES)
        self.assertRow(self.unchanged(must_move, web, (0, 0), (1, 1)), (0, 1))
        self.assertRow(must_move(web, (0, 0), (0, 0)), ())
        self.assertRow(self.unchanged(fewest_movers, web, (0, 0), (1, 1)), (0, 1))
        self.assertRow(fewest_movers(web, (0, 0), (0, 0)), ())
        self.assertRow(must_move(web, (0, 0), (0, 1)), (1,))
        self.assertRow(fewest_movers(web, (0, 0), (0, 1)), (1,))

    def test_houses_that_move_and_come_back(self):
        # House 2 goes on if one of the lamps 0 and 1 differs from what they are now.
        web = Web((("rows", (0,), (1, 0)), ("rows", (1,), (1, 0)), ("rows", (0, 1), (0, 1, 1, 1))))
        self.assertRow(must_move(web, (0, 0, 0), (0, 0, 1)), (2,))
        self.assertRow(fewest_movers(web, (0, 0, 0), (0, 0, 1)), (0, 2))
        web = Web((("rows", (0,), (1, 0)), ("rows", (0,), (0, 1))))
        self.assertRow(must_move(web, (0, 0), (0, 1)), (0, 1))
        self.assertRow(fewest_movers(web, (0, 0), (0, 1)), (0, 1))

    def test_two_least_groups(self):
        # Lamp 3 goes on if one of the houses 0, 1 and 2 moves, and house 0 cannot come back.
        rows = [("rows", (), (1,))] + [("rows", (house,), (1, 0)) for house in (1, 2)]
        web = Web(rows + [("rows", (0, 1, 2), (0,) + (1,) * 7)])
        start, goal = (0, 0, 0, 0), (0, 0, 0, 1)
        leads = [group for group in all_groups(4)
                 if goal in reached_by_news(frozen_web(web, start, group), start)]
        self.assertEqual(leads, [(0, 1, 2, 3), (0, 1, 3), (0, 2, 3), (1, 2, 3), (1, 3), (2, 3)])
        self.assertRow(must_move(web, start, goal), (3,))
        self.assertRow(fewest_movers(web, start, goal), (1, 3))

    def test_against_all_groups(self):
        for size, many in ((1, 6), (2, 20), (3, 8), (4, 1)):
            for web in some_webs(size, many, seed=20):
                for start in all_states(size):
                    leads = {group: reached_by_news(frozen_web(web, start, group), start)
                             for group in all_groups(size)}
                    for goal in all_states(size):
                        groups = [group for group in leads if goal in leads[group]]
                        if not groups:
                            self.refused(NeverReached, must_move, web, start, goal)
                            self.refused(NeverReached, fewest_movers, web, start, goal)
                            continue
                        must = tuple(house for house in range(size)
                                     if all(house in group for group in groups))
                        self.assertRow(must_move(web, start, goal), must)
                        fewest = min(groups, key=lambda group: (len(group), group))
                        self.assertRow(fewest_movers(web, start, goal), fewest)
                        for house in range(size):
                            if start[house] != goal[house]:
                                self.assertIn(house, must)

    def test_limit(self):
        self.assertRow(fewest_movers(constant_web(6, 1), (0,) * 6, (0, 1) * 3), (1, 3, 5))
        for size in (7, 12):
            web, state = constant_web(size, 1), (1,) * size
            self.refused(TooLarge, fewest_movers, web, state, state, count=size, limit=6)
            # The limit comes before NeverReached.
            self.refused(TooLarge, fewest_movers, web, state, (0,) * size, count=size, limit=6)
            self.refused(NeverReached, must_move, web, state, (0,) * size)
            self.assertRow(must_move(web, (0,) * size, state), tuple(range(size)))

    def test_arguments(self):
        for web in (Web(COPIES), constant_web(12)):
            for call in (must_move, fewest_movers):
                self.checked(call, [web, (0,) * web.size, (1,) * web.size],
                             (1, BadState, "row", bad_states(web.size)),
                             (2, BadState, "row", bad_states(web.size)))
