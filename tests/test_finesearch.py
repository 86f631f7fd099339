"""Points 55 and 56: the states that are finely reached."""

import itertools

from oldnews.agesearch import reached_by_age
from oldnews.errors import BadState, BadTop, TooLarge
from oldnews.finesearch import fine_lots, fine_reached, fine_reached_singly
from oldnews.fineruns import fine_states
from oldnews.minimal import minimal_rooms
from oldnews.newsearch import reached_by_news
from oldnews.reaching import reached
from oldnews.webs import Web
from tests.support import (
    COPIES, OPPOSITES, VAST, Case, all_states, bad_states, constant_web, copying_web, some_webs,
    states_in_room,
)
from tests.test_fineruns import BEAT, good_moves
from tests.test_levels import BAD_TOPS


def runs_by_moves(web, top, start, singly):
    """A fine run to each row of levels that is reached, found beat by beat."""
    first = tuple(top * digit for digit in start)
    runs, waiting = {first: ()}, [first]
    while waiting:
        levels = waiting.pop()
        moves = {(house, step): (house, step, digits)
                 for house, step, digits in good_moves(web.rows(), top, levels)}
        if singly:
            beats = [(move,) for move in moves.values()]
        else:
            choices = [[None] + [moves[house, step] for step in (1, -1) if (house, step) in moves]
                       for house in range(web.size)]
            beats = [tuple(move for move in beat if move) for beat in itertools.product(*choices)]
        for beat in beats:
            after = list(levels)
            for house, step, _ in beat:
                after[house] += step
            if tuple(after) not in runs:
                runs[tuple(after)] = runs[levels] + (beat,)
                waiting.append(tuple(after))
    return runs


def corners_by_moves(web, top, start, singly):
    runs = runs_by_moves(web, top, start, singly)
    return tuple(state for state in all_states(web.size)
                 if tuple(top * digit for digit in state) in runs)


def lots_by_reach(size, reach):
    """The closed lots, found among the rows that the states reach; `reach` gives them."""
    rows = {reach(state) for state in all_states(size)}
    return tuple(sorted(row for row in rows if all(reach(state) == row for state in row)))


class FineSearchTest(Case):
    def test_example(self):
        web = Web(OPPOSITES)
        self.assertEqual(fine_states(web, 2, (0, 0), (BEAT, BEAT))[-1], (2, 2))
        for top in range(1, 11):
            self.assertRow(self.unchanged(fine_reached, web, top, (0, 0)),
                           ((0, 0), (0, 1), (1, 0), (1, 1)))
            self.assertRow(self.unchanged(fine_reached_singly, web, top, (0, 0)),
                           ((0, 0), (0, 1), (1, 0)))
            self.assertRow(fine_reached(web, top, (0, 1)), ((0, 1),))
            self.assertRow(self.unchanged(fine_lots, web, top), (((0, 1),), ((1, 0),)))

    def test_against_fine_runs(self):
        for size, many, tops in ((1, 6, (1, 2, 5)), (2, 16, (1, 2, 3)), (3, 5, (1, 2))):
            for web in some_webs(size, many, seed=23):
                for top in tops:
                    for start in all_states(size)[::1 if size < 3 else 3]:
                        self.assertRow(fine_reached(web, top, start),
                                       corners_by_moves(web, top, start, False))
                        self.assertRow(fine_reached_singly(web, top, start),
                                       corners_by_moves(web, top, start, True))

    def test_the_searches_by_moves_find_fine_runs(self):
        for web in some_webs(2, 6, seed=24):
            for levels, run in runs_by_moves(web, 2, (0, 1), False).items():
                self.assertEqual(fine_states(web, 2, (0, 1), run)[-1], levels)

    def test_the_top_1(self):
        unlike = 0
        for size, many in ((1, 6), (2, 30), (3, 20)):
            for web in some_webs(size, many, seed=25):
                for start in all_states(size):
                    found = fine_reached(web, 1, start)
                    self.assertRow(found, reached_by_age(web, start, 0))
                    unlike += found != reached_by_news(web, start)
        self.assertGreater(unlike, 3)

    def test_tops_from_2_on(self):
        tops = {1: (2, 3, 60, 127), 2: (2, 3, 10), 3: (2, 3, 4), 4: (2,)}
        for size, many in ((1, 6), (2, 12), (3, 4), (4, 3)):
            for web in some_webs(size, many, seed=26):
                for start in all_states(size)[::1 if size < 4 else 5]:
                    for top in tops[size]:
                        found = fine_reached(web, top, start)
                        self.assertRow(found, reached(web, start))
                        self.assertEqual(found, reached_by_news(web, start))

    def test_single_moves(self):
        fewer = 0
        for web in some_webs(2, 20, seed=27) + some_webs(3, 4, seed=27):
            for start in all_states(web.size):
                for top in (1, 2):
                    single = fine_reached_singly(web, top, start)
                    self.assertIn(start, single)
                    self.assertLessEqual(set(single), set(fine_reached(web, top, start)))
                    fewer += single != fine_reached(web, top, start)
        self.assertGreater(fewer, 2)

    def test_lots(self):
        for size, many in ((1, 6), (2, 12), (3, 4), (4, 2)):
            for web in some_webs(size, many, seed=28):
                ends = tuple(sorted(tuple(states_in_room(room)) for room in minimal_rooms(web)))
                self.assertRow(fine_lots(web, 2), ends)
                if size < 4:
                    self.assertRow(fine_lots(web, 3), ends)
                self.assertRow(fine_lots(web, 1), lots_by_reach(
                    size, lambda state: corners_by_moves(web, 1, state, False)))

    def test_lots_of_the_top_1(self):
        self.assertRow(fine_lots(Web(COPIES), 1), (((0, 0),), ((1, 1),)))
        self.assertRow(fine_lots(copying_web(2), 1), tuple((state,) for state in all_states(2)))
        # Each house does the opposite of the one before it, so that some two are alike.
        web = Web([("rows", (house,), (1, 0)) for house in (2, 0, 1)])
        self.assertRow(fine_lots(web, 1), (tuple(all_states(3)[1:7]),))
        self.assertRow(fine_lots(web, 2), (tuple(all_states(3)),))
        # With the top 1 no house reads old news, and one state is missed.
        web = Web((("rows", (0, 1), (0, 0, 0, 1)), ("rows", (0, 1), (0, 1, 0, 0))))
        self.assertRow(fine_reached(web, 1, (1, 1)), ((0, 0), (1, 0), (1, 1)))
        self.assertRow(fine_reached(web, 2, (1, 1)), tuple(all_states(2)))


class LimitTest(Case):
    def test_rows_of_levels(self):
        for size, top in ((1, 127), (2, 10), (3, 4), (4, 2), (5, 1), (6, 1), (7, 1)):
            web, state = constant_web(size, 1), (0,) * size
            self.assertEqual(len(fine_reached(web, top, state)), 2 ** size)
            self.assertEqual(len(fine_reached_singly(web, top, state)), 2 ** size)
            self.assertRow(fine_lots(web, top), (((1,) * size,),))

    def test_too_many(self):
        for size, top in ((1, 128), (2, 11), (3, 5), (4, 3), (5, 2), (6, 2), (7, 2), (8, 1),
                          (12, 1), (12, 99), (1, VAST), (12, VAST)):
            web, state = constant_web(size), (0,) * size
            count = (top + 1) ** size
            self.refused(TooLarge, fine_reached, web, top, state, count=count, limit=128)
            self.refused(TooLarge, fine_reached_singly, web, top, state, count=count, limit=128)
            self.refused(TooLarge, fine_lots, web, top, count=count, limit=128)

    def test_arguments(self):
        for web in (Web(COPIES), constant_web(12)):
            tops = (1, BadTop, "top", BAD_TOPS)
            start = (2, BadState, "row", bad_states(web.size))
            self.checked(fine_reached, [web, 1, (0,) * web.size], tops, start)
            self.checked(fine_reached_singly, [web, VAST, (0,) * web.size], tops, start)
            self.checked(fine_lots, [web, 1], tops)
