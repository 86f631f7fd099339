"""Points 57 to 59: fine runs from groups and from runs by old news, and runs from fine runs."""

import random

from oldnews.errors import BadGroup, BadLevels, BadRun, BadState, BadTop, NotServing, TooLarge
from oldnews.fineruns import fine_states
from oldnews.leading import fine_from_news, fine_run_by_group, news_from_fine
from oldnews.leasts import least_room
from oldnews.levels import corner_state
from oldnews.runs import changed_houses, run_states
from oldnews.serving import serves
from oldnews.webs import Web
from tests.support import (
    COPIES, OPPOSITES, VAST, Case, all_groups, all_states, bad_groups, bad_states, constant_web,
    some_webs,
)
from tests.test_finesearch import runs_by_moves
from tests.test_fineruns import BEAT, some_fine_run
from tests.test_newsearch import runs_from
from tests.test_runs import some_run
from tests.test_serving import served_goals

LOW_TOPS = [1, 0, -1, -VAST]
NEWS = (((0, (0,)),), ((1, (1,)),))


class FineCase(Case):
    def check_fine(self, web, top, start, goal, run, houses):
        """Asserts what points 57 and 58 say of a fine run in which these houses may move."""
        self.assertFrozen(run)
        levels = fine_states(web, top, start, run)
        self.assertEqual(levels[-1], tuple(top * digit for digit in goal))
        self.assertLessEqual({move[0] for beat in run for move in beat}, set(houses))
        if not houses:
            self.assertRow(run, ())
        self.assertLessEqual(len(run), len(houses) + top - 1 if houses else 0)


class ByGroupTest(FineCase):
    def test_example(self):
        web = Web(OPPOSITES)
        for top in (2, 3, 31, 32):
            run = self.unchanged(fine_run_by_group, web, top, (0, 0), (1, 1), (0, 1))
            self.check_fine(web, top, (0, 0), (1, 1), run, (0, 1))
            # The houses that move may have to come back.
            run = fine_run_by_group(web, top, (0, 0), (0, 0), (0, 1))
            self.check_fine(web, top, (0, 0), (0, 0), run, (0, 1))

    def test_no_house_that_moves(self):
        web = Web(OPPOSITES)
        for top in (2, 5, 32):
            self.assertRow(fine_run_by_group(web, top, (0, 1), (0, 1), (0, 1)), ())
            self.assertRow(fine_run_by_group(web, top, (0, 0), [0, 0], []), ())

    def test_small_webs(self):
        served = 0
        for size, many in ((1, 6), (2, 10), (3, 4)):
            for web in some_webs(size, many, seed=29):
                for start in all_states(size):
                    for group in all_groups(size):
                        room = least_room(web, start, group=group)
                        free = tuple(house for house in range(size) if room[house] == 2)
                        for goal in all_states(size):
                            if not serves(web, start, goal, group):
                                self.refused(NotServing, fine_run_by_group, web, 2, start, goal,
                                             group)
                                continue
                            served += len(free)
                            for top in (2, 3, 6):
                                run = fine_run_by_group(web, top, start, goal, group)
                                self.check_fine(web, top, start, goal, run, free)
        self.assertGreater(served, 100)

    def test_large_webs(self):
        for size in (6, 12):
            for web, start, goal, group, free in served_goals(size, 12, seed=30):
                for top in (2, 32):
                    run = fine_run_by_group(web, top, start, goal, group)
                    self.check_fine(web, top, start, goal, run, free)

    def test_limit_and_errors(self):
        web = Web(OPPOSITES)
        for top in (33, VAST):
            # The limit comes before NotServing.
            for goal in ((1, 1), (0, 0)):
                self.refused(TooLarge, fine_run_by_group, web, top, (0, 1), goal, (0,),
                             count=top, limit=32)
            self.refused(TooLarge, fine_run_by_group, web, top, (0, 0), (1, 1), (0, 1),
                         count=top, limit=32)
        self.refused(NotServing, fine_run_by_group, web, 32, (0, 1), (1, 1), (0, 1))

    def test_arguments(self):
        for web, top in ((Web(OPPOSITES), 2), (constant_web(12), 99)):
            state = (0,) * web.size
            self.checked(fine_run_by_group, [web, top, state, state, (0, 1)],
                         (1, BadTop, "top", LOW_TOPS),
                         (2, BadState, "row", bad_states(web.size)),
                         (3, BadState, "row", bad_states(web.size)),
                         (4, BadGroup, "row", bad_groups(web.size)))


class FromNewsTest(FineCase):
    def test_example(self):
        web = Web(OPPOSITES)
        for top in (2, 3, 32):
            run = self.unchanged(fine_from_news, web, top, (0, 0), NEWS)
            self.check_fine(web, top, (0, 0), (1, 1), run, (0, 1))

    def test_no_house_that_moves(self):
        web = Web(OPPOSITES)
        for run in ((), ((),), (((0, (0,)), (1, (0,))), ())):
            self.assertRow(fine_from_news(web, 2, (0, 1), run), ())

    def test_houses_that_move_and_come_back(self):
        web = Web((("rows", (0,), (1, 0)), ("rows", (0,), (0, 1))))
        news = (((0, (0,)),), ((0, (0,)),))
        self.assertEqual(run_states(web, (0, 0), news)[-1], (0, 0))
        for top in (2, 4):
            self.check_fine(web, top, (0, 0), (0, 0), fine_from_news(web, top, (0, 0), news), (0,))

    def test_runs_of_small_webs(self):
        for web in some_webs(2, 12, seed=31) + some_webs(3, 1, seed=31):
            for start in all_states(web.size):
                for goal, news in runs_from(web, start).items():
                    houses = changed_houses(run_states(web, start, news))
                    for top in (2, 5):
                        run = fine_from_news(web, top, start, news)
                        self.check_fine(web, top, start, goal, run, houses)

    def test_runs_of_large_webs(self):
        rng = random.Random(19)
        for size in (4, 7, 12):
            for web in some_webs(size, 10, seed=32):
                start = rng.choice(all_states(size))
                news = some_run(rng, web, 7)
                states = run_states(web, start, news)
                for top in (2, 32):
                    run = fine_from_news(web, top, start, news)
                    self.check_fine(web, top, start, states[-1], run, changed_houses(states))

    def test_limit_and_errors(self):
        web = Web(OPPOSITES)
        bad = (((0, (0,)),), ((0, (0,)), (1, (2,))))
        self.refused(BadRun, fine_from_news, web, 32, (0, 0), bad, beat=1, place=1)
        for top in (33, VAST):
            self.refused(TooLarge, fine_from_news, web, top, (0, 0), (), count=top, limit=32)
            # The limit comes before BadRun.
            self.refused(TooLarge, fine_from_news, web, top, (0, 0), bad, count=top, limit=32)

    def test_arguments(self):
        for web in (Web(OPPOSITES), constant_web(12)):
            for top, run in ((2, ()), (99, (((99, ()),),))):
                self.checked(lambda first, second, start: fine_from_news(first, second, start, run),
                             [web, top, (0,) * web.size], (1, BadTop, "top", LOW_TOPS),
                             (2, BadState, "row", bad_states(web.size)))


class FromFineTest(Case):
    def check_news(self, web, top, start, fine, goal):
        """Asserts what point 59 says of the run for a fine run to the goal."""
        news = news_from_fine(web, top, start, fine)
        self.assertFrozen(news)
        self.assertEqual(run_states(web, start, news)[-1], goal)
        moved = {move[0] for beat in fine for move in beat}
        self.assertLessEqual({look[0] for beat in news for look in beat}, moved)
        self.assertLessEqual(len(news), len(moved) + 1 if moved else 0)

    def test_example(self):
        web = Web(OPPOSITES)
        self.check_news(web, 2, (0, 0), (BEAT, BEAT), (1, 1))
        self.unchanged(news_from_fine, web, 2, (0, 0), (BEAT, BEAT))

    def test_no_house_that_moves(self):
        for run in ((), ((),), ((), ())):
            self.assertRow(news_from_fine(Web(OPPOSITES), 2, (0, 0), run), ())
            self.assertRow(news_from_fine(Web(OPPOSITES), VAST, (0, 1), run), ())

    def test_houses_that_move_and_come_back(self):
        web = Web((("rows", (0,), (1, 0)), ("rows", (0,), (0, 1))))
        self.check_news(web, 2, (0, 0), (((0, 1, (0,)),), ((0, -1, (1,)),)), (0, 0))

    def test_tops_above_32(self):
        web = Web(OPPOSITES)
        for top in (33, 100):
            self.check_news(web, top, (0, 0), (BEAT,) * top, (1, 1))

    def test_small_webs(self):
        corners = others = 0
        for size, many, tops in ((1, 6, (2, 4)), (2, 10, (2, 3)), (3, 2, (2, 3))):
            for web in some_webs(size, many, seed=33):
                for top in tops:
                    for start in all_states(size)[::1 if size < 3 else 3]:
                        for levels, run in runs_by_moves(web, top, start, False).items():
                            goal = corner_state(top, levels)
                            if goal is None:
                                others += 1
                                self.refused(BadLevels, news_from_fine, web, top, start, run,
                                             row=levels)
                            else:
                                corners += 1
                                self.check_news(web, top, start, run, goal)
        self.assertGreater(corners, 100)
        self.assertGreater(others, 100)

    def test_large_webs(self):
        rng = random.Random(20)
        corners = 0
        for size in (4, 7, 12):
            for web in some_webs(size, 20, seed=34):
                start = rng.choice(all_states(size))
                run, levels = some_fine_run(rng, web.rows(), 2, start, 8)
                for beats in range(9):
                    goal = corner_state(2, levels[beats])
                    if goal is not None and beats > 0:
                        corners += 1
                        self.check_news(web, 2, start, run[:beats], goal)
        self.assertGreater(corners, 5)

    def test_runs_there_and_back(self):
        rng = random.Random(21)
        for web in some_webs(5, 20, seed=35):
            start = rng.choice(all_states(5))
            news = some_run(rng, web, 6)
            goal = run_states(web, start, news)[-1]
            for top in (2, 3):
                fine = fine_from_news(web, top, start, news)
                self.check_news(web, top, start, fine, goal)

    def test_errors(self):
        web = Web(OPPOSITES)
        self.refused(BadLevels, news_from_fine, web, 3, (0, 0), [[list(move) for move in BEAT]],
                     row=(1, 1))
        # BadRun comes before BadLevels.
        self.refused(BadRun, news_from_fine, web, 3, (0, 0), (BEAT, (BEAT[1], BEAT[0])),
                     beat=1, place=1)
        self.refused(BadRun, news_from_fine, web, 2, (0, 1), ((), BEAT), beat=1, place=0)

    def test_arguments(self):
        for web in (Web(OPPOSITES), constant_web(12)):
            for run in ((), (((99, 1, ()),),)):
                self.checked(lambda first, top, start: news_from_fine(first, top, start, run),
                             [web, 2, (0,) * web.size], (1, BadTop, "top", LOW_TOPS),
                             (2, BadState, "row", bad_states(web.size)))
        self.assertRow(news_from_fine(Web(COPIES), 2, [0, 0], []), ())
