"""Point 88: fates under a hold, and holds in turn."""

import random

from oldnews.errors import BadHold, BadRoom, BadState, TooLarge
from oldnews.fates import fates
from oldnews.turns import can_steer, fates_after, held_fates
from oldnews.webs import Web
from tests.support import (
    COPIES, OPPOSITES, Case, all_holds, all_states, bad_holds, bad_rooms, bad_states, both_webs,
    constant_web, copying_web, states_in_room,
)
from tests.test_showing import ends_by_hand


def after_by_hand(web, start, holds):
    states = {start}
    for hold in holds:
        ends = {end for state in states for end in ends_by_hand(web, hold, state)}
        states = {state for end in ends for state in states_in_room(end)}
    return tuple(sorted({end for state in states for end in ends_by_hand(web, (), state)}))


class TurnsTest(Case):
    def test_examples(self):
        web = Web(OPPOSITES)
        self.assertRow(self.unchanged(held_fates, web, (0, 0), ((0, 1),)), ((1, 0),))
        self.assertRow(self.unchanged(held_fates, web, (0, 0), ()), ((0, 1), (1, 0)))
        self.assertRow(self.unchanged(fates_after, web, (0, 0)), ((0, 1), (1, 0)))
        self.assertRow(self.unchanged(fates_after, web, (0, 1), ((0, 1),)), ((1, 0),))
        self.assertRow(self.unchanged(fates_after, web, (0, 1), ((0, 1),), ((1, 1),)), ((0, 1),))
        # Both lamps on can go on in either way.
        self.assertRow(fates_after(web, (0, 1), ((0, 1), (1, 1))), ((0, 1), (1, 0)))
        self.assertTruth(self.unchanged(can_steer, web, (0, 1), (1, 0), ((0, 1),)), True)
        self.assertTruth(self.unchanged(can_steer, web, (0, 0), (1, 0)), False)
        self.assertTruth(can_steer(web, (1, 0), (1, 0)), True)
        self.assertTruth(can_steer(web, (1, 0), (2, 0)), False)
        self.assertTruth(can_steer(web, (0, 1), (0, 1), ((0, 1),)), False)

    def test_the_order_of_the_holds(self):
        # House 1 copies house 0, and house 2 keeps that it was on once.
        web = Web((("rows", (0,), (0, 1)), ("rows", (0,), (0, 1)), ("rows", (1, 2), (0, 1, 1, 1))))
        off, on = ((0, 0),), ((0, 1),)
        self.assertRow(fates_after(web, (0, 0, 0), on, off), ((0, 0, 1),))
        self.assertRow(fates_after(web, (0, 0, 0), off, on), ((1, 1, 1),))
        self.assertRow(fates_after(web, (0, 0, 0), off), ((0, 0, 0),))
        self.assertTruth(can_steer(web, (0, 0, 0), (0, 0, 1), on, off), True)
        self.assertTruth(can_steer(web, (0, 0, 0), (0, 0, 1), off, on), False)

    def test_an_end_with_free_houses(self):
        # While house 1 is held off, house 0 turns; it stays as it is once both are on.
        web = Web((("rows", (0, 1), (1, 0, 0, 1)), ("rows", (1,), (0, 1))))
        hold = ((1, 0),)
        self.assertRow(held_fates(web, (0, 1), hold), ((2, 0),))
        self.assertRow(fates_after(web, (0, 1), hold), ((2, 0),))
        self.assertRow(fates_after(web, (0, 1), hold, ((1, 1),)), ((0, 1), (1, 1)))
        self.assertTruth(can_steer(web, (0, 1), (2, 0), hold), True)

    def test_against_all_rooms(self):
        rng = random.Random(94)
        several, steered = 0, set()
        for size, many in ((1, 6), (2, 12), (3, 6), (4, 1)):
            for web in both_webs(size, many, seed=95):
                for start in rng.sample(all_states(size), 2):
                    self.assertRow(fates_after(web, start), fates(web, start))
                    for hold in rng.sample(all_holds(size), 3):
                        self.assertRow(self.unchanged(held_fates, web, start, hold),
                                       ends_by_hand(web, hold, start))
                    for count in (0, 1, 2, 3):
                        holds = [rng.choice(all_holds(size)) for _ in range(count)]
                        wanted = after_by_hand(web, start, holds)
                        several += len(wanted) > 1 and count > 1
                        self.assertRow(self.unchanged(fates_after, web, start, *holds), wanted)
                        for end in wanted:
                            truth = wanted == (end,)
                            steered.add(truth)
                            self.assertTruth(self.unchanged(can_steer, web, start, end, *holds),
                                             truth)
                        self.assertTruth(can_steer(web, start, (2,) * size, *holds),
                                         wanted == ((2,) * size,))
        self.assertGreater(several, 5)
        self.assertEqual(steered, {False, True})

    def test_limit(self):
        web = copying_web(4)
        self.assertRow(held_fates(web, (0,) * 4, ((0, 1),)), ((1, 0, 0, 0),))
        self.assertRow(fates_after(web, (0,) * 4, ((0, 1),)), ((1, 0, 0, 0),))
        for size in (5, 12):
            web, start = constant_web(size), (0,) * size
            self.refused(TooLarge, held_fates, web, start, (), count=size, limit=4)
            self.refused(TooLarge, fates_after, web, start, count=size, limit=4)
            self.refused(TooLarge, fates_after, web, start, (), ((0, 1),), count=size, limit=4)
            self.refused(TooLarge, can_steer, web, start, start, count=size, limit=4)

    def test_arguments(self):
        for web in (Web(COPIES), constant_web(12)):
            state = (0,) * web.size
            states, holds = bad_states(web.size), bad_holds(web.size)
            self.checked(held_fates, [web, state, ()], (1, BadState, "row", states),
                         (2, BadHold, "row", holds))
            self.checked(fates_after, [web, state, (), ()], (1, BadState, "row", states),
                         (2, BadHold, "row", holds), (3, BadHold, "row", holds[::-1]))
            self.checked(can_steer, [web, state, state, (), ()], (1, BadState, "row", states),
                         (2, BadRoom, "row", bad_rooms(web.size)), (3, BadHold, "row", holds),
                         (4, BadHold, "row", holds[::-1]))
