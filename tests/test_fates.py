"""Points 63 and 64: the fates of states."""

import random

from oldnews.endings import end_states
from oldnews.errors import BadState, TooLarge
from oldnews.fates import fates, fates_of_all, is_decided, lamp_fates
from oldnews.minimal import minimal_rooms
from oldnews.newsearch import reached_by_news
from oldnews.webs import Web
from tests.support import (
    COPIES, OPPOSITES, Case, all_states, bad_states, both_webs, constant_web, copying_web,
    some_webs, states_in_room,
)
from tests.test_endings import copies_behind


def fates_by_news(web, start):
    """The ends whose states the state reaches, as rooms."""
    states = reached_by_news(web, start)
    return tuple(end for end in minimal_rooms(web) if set(states_in_room(end)) <= set(states))


class FatesTest(Case):
    def test_examples(self):
        web = Web(OPPOSITES)
        self.assertRow(self.unchanged(fates, web, (0, 0)), ((0, 1), (1, 0)))
        self.assertRow(self.unchanged(fates, web, (0, 1)), ((0, 1),))
        self.assertTruth(self.unchanged(is_decided, web, (0, 0)), False)
        self.assertTruth(self.unchanged(is_decided, web, (0, 1)), True)
        self.assertRow(self.unchanged(lamp_fates, web, (0, 0)), ((1, 1, 0), (1, 1, 0)))
        self.assertRow(self.unchanged(lamp_fates, web, (1, 0)), ((0, 1, 0), (1, 0, 0)))
        self.assertRow(fates_of_all(web), ((0, 1), (0,), (1,), (0, 1)))

    def test_a_fate_with_free_houses(self):
        web = Web((("rows", (1,), (0, 1)), ("rows", (0,), (1, 0)), ("rows", (2,), (0, 1))))
        self.assertRow(fates(web, (0, 0, 1)), ((2, 2, 1),))
        self.assertRow(lamp_fates(web, (0, 0, 1)), ((0, 0, 1), (0, 0, 1), (0, 1, 0)))

    def test_against_what_states_reach(self):
        undecided = 0
        for size, many in ((1, 8), (2, 20), (3, 10), (4, 3)):
            for web in both_webs(size, many, seed=42):
                ends = minimal_rooms(web)
                rows = []
                for state in all_states(size):
                    wanted = fates_by_news(web, state)
                    self.check(web, state, wanted)
                    rows.append(tuple(place for place, end in enumerate(ends) if end in wanted))
                    undecided += len(wanted) > 1
                    for other in reached_by_news(web, state):
                        self.assertLessEqual(set(fates(web, other)), set(wanted))
                self.assertRow(fates_of_all(web), tuple(rows))
        self.assertGreater(undecided, 30)

    def check(self, web, state, wanted):
        self.assertGreater(len(wanted), 0)
        self.assertRow(fates(web, state), wanted)
        self.assertTruth(is_decided(web, state), len(wanted) == 1)
        triples = [[0, 0, 0] for _ in state]
        for fate in wanted:
            for house, mark in enumerate(fate):
                triples[house][mark] += 1
        self.assertRow(lamp_fates(web, state), tuple(tuple(triple) for triple in triples))

    def test_five_and_six_houses(self):
        rng = random.Random(23)
        for size in (5, 6):
            for web in some_webs(size, 4, seed=43):
                ends = end_states(web)
                rows = [row for row, end in zip(minimal_rooms(web), ends)]
                for state in rng.sample(all_states(size), 6):
                    found = fates(web, state)
                    self.assertEqual(found, tuple(end for end in rows if end in found))
                    self.check(web, state, found)
                if size == 5:
                    places = [tuple(rows.index(fate) for fate in fates(web, state))
                              for state in all_states(5)]
                    self.assertRow(fates_of_all(web), tuple(places))

    def test_limit_of_the_web(self):
        self.assertRow(fates_of_all(copying_web(5)), tuple((place,) for place in range(32)))
        for size in (6, 12):
            self.refused(TooLarge, fates_of_all, constant_web(size), count=size, limit=5)

    def test_limit_of_the_least_room(self):
        for size in (7, 12):
            web, state = copies_behind(size, 6), (0, 1) * (size // 2) + (0,) * (size % 2)
            self.check(web, state, ((2,) * 6 + state[6:],))
            for free in (7, size):
                for call in (fates, is_decided, lamp_fates):
                    self.refused(TooLarge, call, copies_behind(size, free), (1,) * size,
                                 count=free, limit=6)
        self.check(copying_web(12), (0, 1) * 6, ((0, 1) * 6,))

    def test_arguments(self):
        for web in (Web(COPIES), copies_behind(12, 12)):
            for call in (fates, is_decided, lamp_fates):
                self.checked(call, [web, (0,) * web.size],
                             (1, BadState, "row", bad_states(web.size)))
