"""Points 45 and 46: whether a start reaches a goal, and a run to it."""

import random

from oldnews.errors import BadState, NeverReached, TooLarge
from oldnews.newsearch import reached_by_news
from oldnews.reaching import reach_run, reached, reaches
from oldnews.runs import run_states
from oldnews.serving import serves
from oldnews.striking import strikes
from oldnews.webs import Web
from tests.support import (
    COPIES, OPPOSITES, all_groups, all_states, bad_states, constant_web, some_webs,
)
from tests.test_runs import some_run
from tests.test_serving import RunCase


class ReachingTest(RunCase):
    def test_examples(self):
        web = Web(OPPOSITES)
        self.assertTruth(self.unchanged(reaches, web, (0, 0), (1, 1)), True)
        self.assertTruth(reaches(web, (0, 1), (1, 1)), False)
        self.assertRow(self.unchanged(reached, web, (0, 0)), ((0, 0), (0, 1), (1, 0), (1, 1)))
        self.assertRow(reached(web, [0, 1]), ((0, 1),))
        self.check_run(web, (0, 0), (1, 1), self.unchanged(reach_run, web, (0, 0), (1, 1)), (0, 1))
        web = Web((("rows", (), (1,)), ("rows", (0,), (0, 1))))
        self.assertTruth(reaches(web, (0, 0), (0, 1)), False)
        self.assertRow(reached(web, (0, 0)), ((0, 0), (1, 0), (1, 1)))
        self.refused(NeverReached, reach_run, web, (0, 0), (0, 1))

    def test_against_runs(self):
        for size, many in ((1, 6), (2, 20), (3, 12), (4, 3)):
            for web in some_webs(size, many, seed=8):
                for start in all_states(size):
                    wanted = reached_by_news(web, start)
                    self.assertRow(reached(web, start), wanted)
                    for goal in all_states(size)[::1 if size < 4 else 3]:
                        self.assertTruth(reaches(web, start, goal), goal in wanted)
                        self.check(web, start, goal, goal in wanted)

    def check(self, web, start, goal, leads):
        """Asserts that there is a run as in point 46, or that there is none."""
        if not leads:
            self.refused(NeverReached, reach_run, web, start, goal)
            return
        group, room, _ = strikes(web, start, goal)[-1]
        self.assertTruth(serves(web, start, goal, group), True)
        free = tuple(house for house in range(web.size) if room[house] == 2)
        self.check_run(web, start, goal, reach_run(web, start, goal), free)

    def test_some_group_serves(self):
        for web in some_webs(3, 6, seed=10):
            for start in all_states(3):
                for goal in all_states(3):
                    serving = [group for group in all_groups(3) if serves(web, start, goal, group)]
                    self.assertTruth(reaches(web, start, goal), len(serving) > 0)

    def test_large_webs(self):
        rng = random.Random(14)
        for size in (5, 9, 12):
            for web in some_webs(size, 8, seed=11):
                start = rng.choice(all_states(size))
                states = run_states(web, start, some_run(rng, web, 10))
                for goal in states:
                    self.assertTruth(reaches(web, start, goal), True)
                    self.check(web, start, goal, True)

    def test_one_run_behind_another(self):
        for web in some_webs(3, 8, seed=12):
            for start in all_states(3):
                for middle in reached(web, start):
                    for goal in reached(web, middle):
                        self.assertTruth(reaches(web, start, goal), True)

    def test_limit(self):
        self.assertRow(reached(constant_web(5, 1), (0,) * 5), tuple(all_states(5)))
        self.assertRow(reached(constant_web(5, 1), (1,) * 5), ((1,) * 5,))
        for size in (6, 12):
            self.refused(TooLarge, reached, constant_web(size), (0,) * size, count=size, limit=5)

    def test_arguments(self):
        for web in (Web(COPIES), constant_web(12)):
            size = web.size
            start = (1, BadState, "row", bad_states(size))
            goal = (2, BadState, "row", bad_states(size))
            self.checked(reached, [web, (0,) * size], start)
            for call in (reaches, reach_run):
                self.checked(call, [web, (0,) * size, (0,) * size], start, goal)
