"""Point 60: the ends of a web, and their states."""

from oldnews.endings import end_of, end_states
from oldnews.errors import BadState, TooLarge
from oldnews.minimal import minimal_rooms
from oldnews.newsearch import reached_by_news
from oldnews.webs import Web
from tests.support import (
    COPIES, OPPOSITES, VAST, Case, all_states, bad_states, constant_web, copying_web, some_webs,
    states_in_room,
)
from tests.test_minimal import minimal_by_rooms


def copies_behind(size, free):
    """A web in which a turning house has as many loose houses behind it, and the others stay."""
    rows = [("rows", (0,), (1, 0))]
    rows += [("rows", (max(0, house - 1),), (0, 1)) for house in range(1, free)]
    return Web(rows + [("rows", (house,), (0, 1)) for house in range(free, size)])


class EndingsTest(Case):
    def test_examples(self):
        web = Web(OPPOSITES)
        self.assertRow(self.unchanged(end_of, web, (0, 1)), (0, 1))
        self.assertRow(self.unchanged(end_of, web, (0, 0)), None)
        self.assertRow(end_of(web, [1, 1]), None)
        self.assertRow(end_states(web), (((0, 1),), ((1, 0),)))
        # House 0 turns on and off for ever.
        web = Web((("rows", (0,), (1, 0)), ("rows", (1,), (0, 1))))
        self.assertRow(end_of(web, (1, 0)), (2, 0))
        self.assertRow(end_states(web), (((0, 0), (1, 0)), ((0, 1), (1, 1))))

    def test_against_all_rooms(self):
        for size, many in ((1, 8), (2, 20), (3, 12), (4, 2)):
            for web in some_webs(size, many, seed=36):
                ends = minimal_by_rooms(web)
                self.assertRow(end_states(web), tuple(tuple(states_in_room(end)) for end in ends))
                for state in all_states(size):
                    having = [end for end in ends if state in states_in_room(end)]
                    self.assertLessEqual(len(having), 1)
                    self.assertRow(end_of(web, state), having[0] if having else None)

    def test_what_states_reach(self):
        for size, many in ((2, 12), (3, 6), (4, 2)):
            for web in some_webs(size, many, seed=37):
                for state in all_states(size):
                    states = reached_by_news(web, state)
                    ends = [row for row in end_states(web) if set(row) <= set(states)]
                    self.assertGreater(len(ends), 0)
                    self.assertEqual(states in end_states(web), end_of(web, state) is not None)

    def test_the_order_of_the_ends(self):
        # As rooms the ends are (0, 2), (1, 0) and (1, 1).
        web = Web((("rows", (0,), (0, 1)), ("rows", (0, 1), (1, 0, 0, 1))))
        self.assertEqual(minimal_rooms(web), ((0, 2), (1, 0), (1, 1)))
        self.assertRow(end_states(web), (((0, 0), (0, 1)), ((1, 0),), ((1, 1),)))
        # The end (2, 0) comes last, though its first state comes first.
        web = Web((("rows", (0, 1), (1, 0, 0, 1)), ("rows", (1,), (0, 1))))
        self.assertEqual(minimal_rooms(web), ((0, 1), (1, 1), (2, 0)))
        self.assertRow(end_states(web), (((0, 1),), ((1, 1),), ((0, 0), (1, 0))))

    def test_limit_of_the_web(self):
        self.assertRow(end_states(copying_web(6)), tuple((state,) for state in all_states(6)))
        for size in (7, 12):
            self.refused(TooLarge, end_states, copying_web(size), count=size, limit=6)

    def test_limit_of_the_least_room(self):
        for size in (7, 9, 12):
            web = copies_behind(size, 6)
            for state in ((0,) * size, (0, 1) * (size // 2) + (1,) * (size % 2)):
                self.assertRow(end_of(web, state), (2,) * 6 + state[6:])
            for free in (7, size):
                self.refused(TooLarge, end_of, copies_behind(size, free), (0,) * size,
                             count=free, limit=6)
        # A state that no end has, with 6 free houses.
        web = Web((("rows", (), (1,)),) * 6 + (("rows", (6,), (0, 1)),) * 6)
        self.assertRow(end_of(web, (0,) * 12), None)
        self.assertRow(end_of(web, (1,) * 6 + (0,) * 6), (1,) * 6 + (0,) * 6)

    def test_arguments(self):
        for web in (Web(COPIES), copies_behind(12, 12)):
            self.checked(end_of, [web, (0,) * web.size],
                         (1, BadState, "row", bad_states(web.size)))
        self.refused(BadState, end_of, constant_web(2), [0, VAST], row=(0, VAST))
