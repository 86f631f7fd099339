"""Points 43 and 44: rounds of striking, and strikes in an order."""

import random

from oldnews.errors import BadOrder, BadState
from oldnews.leasts import least_room
from oldnews.striking import last_room, strike_in_order, strikes
from oldnews.webs import Web
from tests.support import (
    COPIES, OPPOSITES, VAST, Case, all_orders, all_states, bad_states, constant_web, some_webs,
    takes_by_states,
)

EXAMPLE = (("rows", (), (1,)), ("rows", (0,), (0, 1)))


def unfit_by_states(web, room, goal):
    return tuple(house for house in range(web.size) if room[house] == 2
                 and not takes_by_states(web.rows()[house], room, goal[house]))


def rounds_by_hand(web, start, goal, group):
    """The rounds of point 43, where the first one has the given group."""
    rounds = []
    while not rounds or rounds[-1][2]:
        if rounds:
            group = tuple(house for house in group if house not in rounds[-1][2])
        room = least_room(web, start, group=group)
        rounds.append((group, room, unfit_by_states(web, room, goal)))
    return tuple(rounds)


def ordered_by_hand(web, start, goal, order):
    """The pair of point 44."""
    group, struck = tuple(range(web.size)), []
    while True:
        room = least_room(web, start, group=group)
        unfit = unfit_by_states(web, room, goal)
        if not unfit:
            return tuple(struck), room
        struck.append(min(unfit, key=order.index))
        group = tuple(house for house in group if house != struck[-1])


class StrikingTest(Case):
    def test_example(self):
        web = Web(EXAMPLE)
        self.assertRow(self.unchanged(strikes, web, (0, 0), (0, 1)),
                       (((0, 1), (2, 2), (0,)), ((1,), (0, 0), ())))
        self.assertRow(self.unchanged(last_room, web, (0, 0), (0, 1)), (0, 0))

    def test_no_house_is_struck(self):
        self.assertRow(strikes(Web(EXAMPLE), (0, 0), (1, 1)), (((0, 1), (2, 2), ()),))
        self.assertRow(last_room(Web(EXAMPLE), (0, 0), (1, 1)), (2, 2))
        self.assertRow(strikes(Web(OPPOSITES), (0, 0), (1, 1)), (((0, 1), (2, 2), ()),))
        # The goal is not in the room, but no free house is unfit.
        self.assertRow(strikes(Web(OPPOSITES), (0, 1), (1, 0)), (((0, 1), (0, 1), ()),))
        self.assertRow(strikes(constant_web(12), (0,) * 12, (1,) * 12),
                       ((tuple(range(12)), (0,) * 12, ()),))

    def test_more_rounds(self):
        # Lamp 0 goes on for good, and each other house copies the one before it.
        web = Web([("rows", (), (1,))] + [("rows", (house,), (0, 1)) for house in range(11)])
        rounds = strikes(web, (0,) * 12, (0,) + (1,) * 11)
        self.assertRow(rounds, ((tuple(range(12)), (2,) * 12, (0,)),
                                (tuple(range(1, 12)), (0,) * 12, ())))
        # Without house 2, lamp 1 can go off but not on again, and so on.
        web = Web((("rows", (1,), (0, 1)), ("rows", (2,), (1, 0)), ("rows", (), (0,))))
        self.assertRow(strikes(web, (0, 1, 1), (0, 1, 1)),
                       (((0, 1, 2), (2, 2, 2), (2,)), ((0, 1), (2, 2, 1), (1,)),
                        ((0,), (2, 1, 1), (0,)), ((), (0, 1, 1), ())))
        self.assertRow(last_room(web, (0, 1, 1), (0, 1, 1)), (0, 1, 1))

    def test_against_rounds_by_hand(self):
        many_rounds = 0
        for size, many in ((1, 6), (2, 20), (3, 20), (4, 10), (6, 8)):
            rng = random.Random(size)
            for web in some_webs(size, many, seed=6):
                for _ in range(12):
                    start, goal = rng.choice(all_states(size)), rng.choice(all_states(size))
                    wanted = rounds_by_hand(web, start, goal, tuple(range(size)))
                    many_rounds += len(wanted) > 2
                    self.assertRow(strikes(web, start, goal), wanted)
                    self.assertRow(last_room(web, start, goal), wanted[-1][1])
                    order = rng.sample(range(size), size)
                    found = self.unchanged(strike_in_order, web, start, goal, tuple(order))
                    self.assertRow(found, ordered_by_hand(web, start, goal, order))
                    self.assertEqual(found[1], wanted[-1][1])
        self.assertGreater(many_rounds, 5)

    def test_arguments(self):
        for web in (Web(COPIES), constant_web(12)):
            state = (0,) * web.size
            for call in (strikes, last_room):
                self.checked(call, [web, state, state],
                             (1, BadState, "row", bad_states(web.size)),
                             (2, BadState, "row", bad_states(web.size)))


class OrderTest(Case):
    def test_orders(self):
        # Both houses are unfit for the goal (0, 0), but without one of them the other is not freed.
        web = Web((("rows", (), (1,)), ("rows", (0,), (0, 1)), ("rows", (), (1,))))
        self.assertRow(strike_in_order(web, (0, 0, 0), (0, 1, 0), (0, 1, 2)), ((0, 2), (0, 0, 0)))
        self.assertRow(strike_in_order(web, (0, 0, 0), (0, 1, 0), (2, 1, 0)), ((2, 0), (0, 0, 0)))
        self.assertRow(strike_in_order(web, (0, 0, 0), (1, 1, 1), (2, 1, 0)), ((), (2, 2, 2)))
        # House 1 is unfit only as long as house 0 can be on.
        web = Web((("rows", (), (1,)), ("rows", (0, 1), (0, 1, 1, 1))))
        self.assertRow(strike_in_order(web, (0, 0), (0, 0), (0, 1)), ((0,), (0, 0)))
        self.assertRow(strike_in_order(web, (0, 0), (0, 0), (1, 0)), ((0,), (0, 0)))
        web = Web((("rows", (), (1,)), ("rows", (0,), (1, 1)), ("rows", (), (0,))))
        self.assertRow(strike_in_order(web, (0, 0, 0), (0, 0, 1), (1, 2, 0)), ((1, 0), (0, 0, 0)))

    def test_the_last_room_whatever_the_order(self):
        other_houses = 0
        for size, many in ((2, 20), (3, 20), (4, 4)):
            rng = random.Random(size)
            for web in some_webs(size, many, seed=7):
                for _ in range(4):
                    start, goal = rng.choice(all_states(size)), rng.choice(all_states(size))
                    wanted = last_room(web, start, goal)
                    struck = set()
                    for order in all_orders(size):
                        houses, room = strike_in_order(web, start, goal, order)
                        self.assertRow(room, wanted)
                        self.assertEqual((houses, room),
                                         ordered_by_hand(web, start, goal, order))
                        struck.add(houses)
                    other_houses += len(struck) > 1
        self.assertGreater(other_houses, 2)

    def test_arguments(self):
        orders = [(), (0,), (0, 0), (1, 2), (0, 1, 2), (-1, 0), (0, VAST)]
        self.checked(strike_in_order, [Web(COPIES), (0, 1), (1, 1), (1, 0)],
                     (1, BadState, "row", bad_states(2)), (2, BadState, "row", bad_states(2)),
                     (3, BadOrder, "row", orders))
        self.refused(BadOrder, strike_in_order, constant_web(12), (0,) * 12, (0,) * 12,
                     (0,) * 12, row=(0,) * 12)
