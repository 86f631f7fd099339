"""Points 38 and 39: plain runs, and where they lead when they are repeated."""

import itertools
import random

from oldnews.errors import BadGroup, BadState, TooLarge
from oldnews.plainruns import plain_round, plain_run, plain_states
from oldnews.webs import Web
from tests.support import (
    COPIES, OPPOSITES, VAST, Case, all_groups, all_states, constant_web, image_of, some_webs,
)

NO_GROUPS = [(2,), (1, 0), (0, 0), (-1,), (VAST,)]


def states_by_images(web, start, groups):
    states = [start]
    for group in groups:
        image = image_of(web.rows(), states[-1])
        states.append(tuple(image[house] if house in group else digit
                            for house, digit in enumerate(states[-1])))
    return tuple(states)


class PlainRunTest(Case):
    def test_run(self):
        web = Web((("rows", (0, 1), (0,) * 4), ("terms", ((2, -1),), ()), ("rows", (), (1,))))
        self.assertRow(self.unchanged(plain_run, web, ((0, 2), (), (1,), (0, 1, 2))), (
            ((0, (0, 0)), (2, ())), (), ((1, (0,)),), ((0, (0, 0)), (1, (0,)), (2, ()))))
        self.assertRow(plain_run(web, ()), ())

    def test_states(self):
        rng = random.Random(4)
        for size in (1, 2, 3, 5):
            for web in some_webs(size, 8):
                groups = [rng.choice(all_groups(size)) for _ in range(6)]
                start = rng.choice(all_states(size))
                self.assertRow(self.unchanged(plain_states, web, start, groups),
                               states_by_images(web, start, groups))

    def test_no_groups(self):
        self.assertRow(plain_states(Web(COPIES), [0, 1], []), ((0, 1),))
        self.assertRow(plain_states(Web(COPIES), (0, 1), ((),)), ((0, 1), (0, 1)))

    def test_twelve_houses(self):
        web = Web([("rows", ((house + 1) % 12,), (0, 1)) for house in range(12)])
        self.assertRow(plain_states(web, (1,) + (0,) * 11, [(10,)]), ((1,) + (0,) * 11,) * 2)
        self.assertRow(plain_states(web, (1,) + (0,) * 11, [tuple(range(12))] * 2)[-1],
                       (0,) * 10 + (1, 0))

    def test_arguments(self):
        web = Web(OPPOSITES)
        for start in ((), (0,), (0, 0, 0), (0, 2), (-1, 0)):
            for call in (plain_states, plain_round):
                self.refused(BadState, call, web, list(start), ((5,),), row=start)
        for group in NO_GROUPS:
            groups = [[0], list(group), (9,)]
            self.refused(BadGroup, plain_run, web, groups, row=group)
            for call in (plain_states, plain_round):
                self.refused(BadGroup, call, web, (0, 0), groups, row=group)


class PlainRoundTest(Case):
    def by_hand(self, web, start, groups):
        states = [start]
        while True:
            after = states_by_images(web, states[-1], groups)[-1]
            if after in states:
                place = states.index(after)
                return tuple(states[:place]), tuple(states[place:])
            states.append(after)

    def test_a_tail_and_a_cycle(self):
        # House 0 goes on, house 1 follows it, and house 2 turns all the time.
        web = Web((("rows", (), (1,)), ("rows", (0,), (0, 1)), ("rows", (2,), (1, 0))))
        found = plain_round(web, (0, 0, 0), ((0, 1, 2),))
        self.assertRow(found, (((0, 0, 0), (1, 0, 1)), ((1, 1, 0), (1, 1, 1))))
        self.assertRow(plain_round(web, (1, 1, 0), [[0, 1, 2]]), ((), ((1, 1, 0), (1, 1, 1))))

    def test_by_hand(self):
        tails = 0
        for size in (1, 2, 3):
            for web in some_webs(size, 8):
                for groups in itertools.product(all_groups(size)[::2], repeat=2):
                    for start in all_states(size):
                        found = plain_round(web, start, groups)
                        self.assertRow(found, self.by_hand(web, start, groups))
                        tails += len(found[0]) > 1
        self.assertGreater(tails, 10)

    def test_a_state_within_a_repetition_does_not_count(self):
        # Both groups together lead from (0, 1) by (1, 1) back to (0, 1).
        web = Web([("rows", (0,), (1, 0))] * 2)
        self.assertRow(self.unchanged(plain_round, web, (0, 1), ((0,), (0,))), ((), ((0, 1),)))

    def test_no_groups(self):
        for start in all_states(2):
            self.assertRow(plain_round(Web(OPPOSITES), start, ()), ((), (start,)))
            self.assertRow(plain_round(Web(OPPOSITES), list(start), [[]]), ((), (start,)))

    def test_limit(self):
        web = Web([("rows", (house,), (1, 0)) for house in range(6)])
        self.assertRow(plain_round(web, (0,) * 6, (tuple(range(6)),)), ((), ((0,) * 6, (1,) * 6)))
        self.assertRow(plain_round(web, (0,) * 6, ()), ((), ((0,) * 6,)))
        for size in (7, 12):
            web = constant_web(size)
            for groups in ((), ((),), ((0,), (1,))):
                self.refused(TooLarge, plain_round, web, (0,) * size, groups, count=size, limit=6)
            self.refused(BadState, plain_round, web, (0,) * 6, (), row=(0,) * 6)
            self.refused(BadGroup, plain_round, web, (0,) * size, ((0,), (size,)), row=(size,))
