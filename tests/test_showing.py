"""Points 82 to 84: ends under a hold that show, or fail to show, what is to be shown."""

import itertools
import random

from oldnews.errors import BadHold, BadState, TooLarge
from oldnews.newsearch import reached_by_news
from oldnews.showing import all_show, failing_end, kept_ends
from oldnews.webs import Web
from tests.support import (
    COPIES, OPPOSITES, Case, all_holds, all_states, bad_holds, bad_states, both_webs, constant_web,
    copying_web, held_by_hand, listed, some_webs, states_in_room,
)
from tests.test_endings import copies_behind
from tests.test_minimal import minimal_by_rooms


def held_start(start, hold):
    digits = dict(hold)
    return tuple(digits.get(house, digit) for house, digit in enumerate(start))


def ends_by_hand(web, hold, start=None):
    """The ends under the hold, found among all rooms and by what the start reaches."""
    held = held_by_hand(web, hold)
    ends = minimal_by_rooms(held)
    if start is None:
        return ends
    states = set(reached_by_news(held, held_start(start, hold)))
    return tuple(end for end in ends if set(states_in_room(end)) <= states)


def showing(room, shown):
    return all(room[house] == digit for house, digit in shown)


def shown_by_runs(web, hold, shown, start):
    """Whether each state that is reached reaches one from which only states are that show it."""
    held = held_by_hand(web, hold)
    reached = {state: reached_by_news(held, state) for state in all_states(web.size)}
    settled = {state for state in reached
               if all(showing(other, shown) for other in reached[state])}
    return all(settled & set(reached[state]) for state in reached[held_start(start, hold)])


class ExampleTest(Case):
    def test_examples(self):
        web = Web(OPPOSITES)
        self.assertRow(self.unchanged(failing_end, web, (), ((0, 1),)), (0, 1))
        self.assertRow(self.unchanged(failing_end, web, (), ((0, 0),)), (1, 0))
        self.assertRow(self.unchanged(failing_end, web, (), ()), None)
        self.assertRow(self.unchanged(failing_end, web, ((1, 0),), ((0, 1),)), None)
        self.assertRow(self.unchanged(failing_end, web, (), ((0, 1),), start=(1, 0)), None)
        self.assertRow(self.unchanged(failing_end, web, (), ((0, 1),), start=(0, 0)), (0, 1))
        self.assertTruth(self.unchanged(all_show, web, (), ((0, 1),)), False)
        self.assertTruth(self.unchanged(all_show, web, ((1, 0),), ((0, 1),)), True)
        self.assertTruth(self.unchanged(all_show, web, (), ((0, 1),), start=(1, 0)), True)
        self.assertRow(self.unchanged(kept_ends, web, ((0, 1),)), ((1, 0),))
        self.assertRow(kept_ends(web, ()), ((0, 1), (1, 0)))
        self.assertRow(kept_ends(web, ((0, 1), (1, 1))), ())

    def test_a_free_house_shows_nothing(self):
        web = Web((("rows", (0,), (1, 0)), ("rows", (0,), (0, 1))))
        for digit in (0, 1):
            self.assertRow(failing_end(web, (), ((1, digit),)), (2, 2))
            self.assertRow(failing_end(web, ((0, 1),), ((1, digit),)), None if digit else (1, 1))
            self.assertRow(kept_ends(web, ((1, digit),)), ())

    def test_a_held_house_in_the_start(self):
        # The held row of the start counts, not the start.
        web = Web(COPIES)
        self.assertRow(failing_end(web, ((0, 1),), ((1, 1),), start=(0, 0)), None)
        self.assertTruth(all_show(web, ((0, 1), (1, 0)), ((0, 1), (1, 0)), start=(0, 1)), True)
        self.assertRow(failing_end(copying_web(3), ((0, 1),), ((1, 1),), start=(0, 0, 1)),
                       (1, 0, 1))


class AgainstRoomsTest(Case):
    def test_without_a_start(self):
        failing = set()
        for size, many in ((1, 6), (2, 12), (3, 4)):
            for web in both_webs(size, many, seed=83):
                free = minimal_by_rooms(web)
                for hold in all_holds(size):
                    ends = ends_by_hand(web, hold)
                    kept = tuple(end for end in free if showing(end, hold))
                    self.assertRow(self.unchanged(kept_ends, web, hold), kept)
                    self.assertLessEqual(set(kept), set(ends))
                    for shown in all_holds(size):
                        wrong = [end for end in ends if not showing(end, shown)] + [None]
                        self.assertRow(failing_end(web, hold, shown), wrong[0])
                        self.assertTruth(all_show(web, hold, shown), wrong[0] is None)
                        failing.add(len(wrong))
        self.assertLessEqual({1, 2, 3}, failing)

    def test_with_a_start(self):
        rng = random.Random(84)
        differ = 0
        for size, many in ((1, 6), (2, 12), (3, 8)):
            for web in both_webs(size, many, seed=85):
                for hold in rng.sample(all_holds(size), 3):
                    for start in rng.sample(all_states(size), 2):
                        ends = ends_by_hand(web, hold, start)
                        for shown in all_holds(size):
                            wrong = [end for end in ends if not showing(end, shown)] + [None]
                            self.assertRow(self.unchanged(failing_end, web, hold, shown,
                                                          start=start), wrong[0])
                            self.assertTruth(self.unchanged(all_show, web, hold, shown,
                                                            start=start), wrong[0] is None)
                            differ += wrong[0] != failing_end(web, hold, shown)
        self.assertGreater(differ, 50)

    def test_against_what_states_reach(self):
        rng = random.Random(86)
        both = set()
        for size, many in ((1, 4), (2, 8), (3, 6), (4, 1)):
            for web in both_webs(size, many, seed=87):
                for hold in rng.sample(all_holds(size), 3):
                    for shown in rng.sample(all_holds(size), 3):
                        truths = [shown_by_runs(web, hold, shown, start)
                                  for start in all_states(size)]
                        self.assertTruth(all_show(web, hold, shown), all(truths))
                        for start, truth in zip(all_states(size), truths):
                            self.assertTruth(all_show(web, hold, shown, start=start), truth)
                        both.add((all(truths), any(truths)))
        self.assertEqual(both, {(True, True), (False, True), (False, False)})


class LimitTest(Case):
    def test_without_a_start(self):
        web = copying_web(6)
        self.assertRow(failing_end(web, (), ((0, 1),)), (0,) * 6)
        self.assertTruth(all_show(web, ((0, 1),), ((0, 1),)), True)
        self.assertEqual(len(kept_ends(web, ((5, 1),))), 32)
        for size in (7, 12):
            # The limit is one of houses, also if all of them are held.
            hold = tuple((house, 0) for house in range(size))
            for call in (failing_end, all_show):
                for given in ((), hold):
                    self.refused(TooLarge, call, constant_web(size), given, (), count=size,
                                 limit=6)
            self.refused(TooLarge, kept_ends, constant_web(size), hold, count=size, limit=6)

    def test_with_a_start(self):
        for size in (7, 12):
            start = (0,) * size
            for free in (6, 7, size):
                web = copies_behind(size, free)
                for call in (failing_end, all_show):
                    def asked(hold):
                        return call(web, hold, ((size - 1, 0),), start=start)
                    if free > 6:
                        self.refused(TooLarge, asked, (), count=free, limit=6)
                        # With a house held, only the houses before it become free.
                        self.assertIn(asked(((6, 0),)), (None, True))
                    self.assertIn(asked(((0, 0),)), (None, True))
            self.assertRow(failing_end(copies_behind(size, 6), (), ((1, 0),), start=start),
                           (2,) * 6 + (0,) * (size - 6))

    def test_the_held_row_of_the_start(self):
        # House 0 copies its lamp, and if it is on, the seven houses behind it turn.
        rows = [("rows", (0,), (0, 1))] + [("rows", (0, house), (0, 1, 1, 0))
                                           for house in range(1, 8)]
        web = Web(rows)
        off, on = (0,) * 8, (1,) + (0,) * 7
        self.assertRow(failing_end(web, (), ((0, 1),), start=off), off)
        self.refused(TooLarge, lambda: failing_end(web, (), (), start=on), count=7, limit=6)
        self.refused(TooLarge, lambda: failing_end(web, ((0, 1),), (), start=off), count=7,
                     limit=6)
        self.assertRow(failing_end(web, ((0, 0),), ((0, 1),), start=on), off)
        hold = ((3, 1), (5, 0))
        self.assertRow(failing_end(web, hold, ((7, 0),), start=on), (1, 2, 2, 1, 2, 0, 2, 2))


class ArgumentsTest(Case):
    def test_arguments(self):
        for web in (Web(COPIES), constant_web(12), copies_behind(12, 12)):
            for call in (failing_end, all_show):
                def asked(hold, shown, start):
                    return call(web, hold, shown, start=start)
                self.checked(asked, [(), (), (0,) * web.size],
                             (0, BadHold, "row", bad_holds(web.size)),
                             (1, BadHold, "row", bad_holds(web.size)),
                             (2, BadState, "row", bad_states(web.size)))
                for hold in bad_holds(web.size):
                    self.refused(BadHold, call, web, listed(hold), ((0, 2),), row=hold)
            self.checked(kept_ends, [web, ()], (1, BadHold, "row", bad_holds(web.size)))

    def test_the_first_parameter_decides(self):
        for hold, shown in itertools.permutations(bad_holds(2), 2):
            self.refused(BadHold, failing_end, Web(COPIES), hold, shown, row=hold)

    def test_nothing_changes(self):
        for web in some_webs(3, 3, seed=88):
            before = web.rows()
            failing_end(web, ((0, 1),), ((1, 1),), start=(0, 0, 0))
            kept_ends(web, ((0, 1),))
            self.assertRow(web.rows(), before)
