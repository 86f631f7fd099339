"""Points 108 to 110: what is certain, inner and outer rooms, and surely minimal rooms."""

import random

from oldnews.errors import BadHouse, BadRoom, BadState, Quarrel, TooLarge
from oldnews.extremes import extreme_web
from oldnews.leasts import least_room
from oldnews.surely import (
    closed_certainty, digit_certainty, inner_fit, inner_room, is_surely_minimal, outer_fit,
    outer_room, rest_certainty,
)
from oldnews.webs import Web
from tests.support import (
    VAST, Case, all_rooms, all_signs, all_states, bad_rooms, bad_states, digit_at, fits_by_states,
    image_of, inside, some_signs, states_in_room, true_sightings,
)
from tests.test_closing import loose_by_states
from tests.test_fits import QUARREL, SIGNS
from tests.test_minimal import minimal_by_rooms


def certainty_by_hand(truths):
    if all(truths):
        return "surely"
    return "possibly" if any(truths) else "never"


def cases(seed, most=300):
    """Small signed webs and sightings, with the webs that fit."""
    rng = random.Random(seed)
    signed = all_signs(1) + all_signs(2)[::7] + some_signs(3, 16, seed=seed, most=2)
    found = []
    for signs in signed:
        for count in (0, 3, 9):
            seen = true_sightings(rng, signs, count * len(signs))
            rows = fits_by_states(signs, seen)
            if len(rows) <= most:
                found.append((signs, seen, rows))
    return found


class CertaintyTest(Case):
    def test_examples(self):
        seen = ((0, (0, 0), 1), (1, (0, 0), 0))
        self.assertEqual(self.unchanged(rest_certainty, SIGNS, seen, (0, 0)), "never")
        self.assertEqual(rest_certainty(SIGNS, seen, (1, 0)), "possibly")
        self.assertEqual(rest_certainty(SIGNS, seen + ((1, (1, 1), 0),), (1, 0)), "surely")
        self.assertEqual(self.unchanged(closed_certainty, SIGNS, seen, (2, 0)), "possibly")
        self.assertEqual(closed_certainty(SIGNS, seen, (2, 2)), "surely")
        self.assertEqual(closed_certainty(SIGNS, seen, (0, 2)), "never")
        self.assertEqual(self.unchanged(digit_certainty, SIGNS, seen, 0, (1, 0)), "surely")
        self.assertEqual(digit_certainty(SIGNS, seen, 0, (1, 1)), "possibly")

    def test_against_all_webs(self):
        rooms_found, rests_found, digits_found = set(), set(), set()
        for signs, seen, webs in cases(170):
            size = len(signs)
            for state in all_states(size):
                wanted = certainty_by_hand([image_of(rows, state) == state for rows in webs])
                rests_found.add(wanted)
                self.assertEqual(self.unchanged(rest_certainty, signs, seen, state), wanted)
                for house in range(size):
                    same = len({digit_at(rows[house], state) for rows in webs}) == 1
                    digits_found.add(same)
                    self.assertEqual(self.unchanged(digit_certainty, signs, seen, house, state),
                                     "surely" if same else "possibly")
            houses = tuple(range(size))
            for room in all_rooms(size)[::1 if size < 3 else 4]:
                wanted = certainty_by_hand([loose_by_states(Web(rows), room, houses) == ()
                                            for rows in webs])
                rooms_found.add(wanted)
                self.assertEqual(self.unchanged(closed_certainty, signs, seen, room), wanted)
        self.assertEqual(rests_found, {"surely", "possibly", "never"})
        self.assertEqual(rooms_found, {"surely", "possibly", "never"})
        self.assertEqual(digits_found, {True, False})

    def test_the_sentences_on_extreme_webs(self):
        for signs, seen, webs in cases(171):
            for room in all_rooms(len(signs)):
                closed = [least_room(extreme_web(signs, seen, tuple(
                    house for house, mark in enumerate(room) if mark == digit)), room) == room
                    for digit in (0, 1)]
                self.assertEqual(closed_certainty(signs, seen, room),
                                 "surely" if closed[0] else "possibly" if closed[1] else "never")

    def test_no_limit(self):
        four = tuple((house, 1) for house in range(4))
        signs = (four,) * 12
        self.assertEqual(closed_certainty(signs, (), (2,) * 12), "surely")
        self.assertEqual(rest_certainty(signs, (), (0, 1) * 6), "possibly")
        seen = tuple((house, (0,) * 12, 0) for house in range(12))
        self.assertEqual(rest_certainty(signs, seen, (0,) * 12), "surely")
        self.assertEqual(rest_certainty(signs, seen, (0,) * 11 + (1,)), "never")
        self.assertEqual(digit_certainty(signs, seen, 7, (0,) * 4 + (1,) * 8), "surely")

    def test_arguments(self):
        states, house = bad_states(2), (2, BadHouse, "house", [2, -1, VAST])
        for call, good, faults in (
                (rest_certainty, [(0, 0)], [(2, BadState, "row", states)]),
                (closed_certainty, [(0, 2)], [(2, BadRoom, "row", bad_rooms(2))]),
                (digit_certainty, [0, (0, 0)], [house, (3, BadState, "row", states)])):
            self.checked_seen(call, [SIGNS, ()] + good, *faults)
            self.quarrel_at_last(call, [SIGNS, QUARREL] + good, *faults)


class InnerOuterTest(Case):
    def test_examples(self):
        seen = ((0, (0, 0), 1), (1, (0, 0), 0))
        self.assertRow(self.unchanged(inner_room, SIGNS, seen, (0, 0)), (2, 0))
        self.assertRow(self.unchanged(outer_room, SIGNS, seen, (0, 0)), (2, 2))
        self.assertRow(inner_fit(SIGNS, seen, (0, 0)).rows(),
                       (("rows", (0, 1), (1, 0, 1, 0)), ("rows", (0,), (0, 0))))
        self.assertRow(outer_fit(SIGNS, seen, [0, 0]).rows(),
                       (("rows", (0, 1), (1, 1, 1, 1)), ("rows", (0,), (0, 1))))

    def test_against_all_webs(self):
        differ = 0
        for signs, seen, webs in cases(172, most=100):
            for state in all_states(len(signs)):
                rooms = {least_room(Web(rows), state) for rows in webs}
                inner = self.unchanged(inner_room, signs, seen, state)
                outer = self.unchanged(outer_room, signs, seen, state)
                self.assertFrozen((inner, outer))
                self.assertIn(inner, rooms)
                self.assertIn(outer, rooms)
                self.assertTrue(all(inside(inner, room) and inside(room, outer)
                                    for room in rooms))
                differ += inner != outer
                for call, room, digit in ((inner_fit, inner, 1), (outer_fit, outer, 0)):
                    web = call(signs, seen, state)
                    self.assertRow(least_room(web, state), room)
                    group = tuple(house for house in range(len(signs)) if state[house] == digit)
                    self.assertRow(web.rows(), extreme_web(signs, seen, group).rows())
                    self.assertIn(web.rows(), webs)
        self.assertGreater(differ, 50)

    def test_no_limit(self):
        four = tuple((house, 0) for house in range(4))
        for state in ((0,) * 12, (0, 1) * 6):
            self.assertRow(inner_room((four,) * 12, (), state), state)
            self.assertRow(outer_room((four,) * 12, (), state), (2,) * 12)

    def test_arguments(self):
        states = (2, BadState, "row", bad_states(2))
        for call in (inner_room, outer_room, inner_fit, outer_fit):
            self.checked_seen(call, [SIGNS, (), (0, 0)], states)
            self.quarrel_at_last(call, [SIGNS, QUARREL, (0, 0)], states)


class SurelyMinimalTest(Case):
    def test_examples(self):
        # House 0 turns, which the sightings tell, and house 1 keeps its lamp.
        signs = (((0, -1),), ((1, 1),))
        seen = ((0, (0, 0), 1), (0, (1, 1), 0), (1, (0, 0), 0))
        self.assertTruth(self.unchanged(is_surely_minimal, signs, seen, (2, 0)), True)
        self.assertTruth(is_surely_minimal(signs, seen, (2, 1)), False)
        self.assertTruth(is_surely_minimal(signs, seen, (2, 2)), False)
        self.assertTruth(is_surely_minimal(signs, seen[1:], (2, 0)), False)
        self.assertTruth(is_surely_minimal(signs, seen + ((1, (0, 1), 1),), [2, 1]), True)

    def test_against_all_webs(self):
        found = set()
        for signs, seen, webs in cases(173, most=60):
            minimal = [minimal_by_rooms(Web(rows)) for rows in webs]
            for room in all_rooms(len(signs)):
                wanted = all(room in rooms for rooms in minimal)
                self.assertTruth(self.unchanged(is_surely_minimal, signs, seen, room), wanted)
                others = [other for other in all_rooms(len(signs))
                          if other != room and inside(other, room)]
                # The two other ways to tell it.
                closed = closed_certainty(signs, seen, room) == "surely"
                self.assertEqual(wanted, closed and all(
                    closed_certainty(signs, seen, other) == "never" for other in others))
                self.assertEqual(wanted, closed and all(
                    inner_room(signs, seen, state) == room for state in states_in_room(room)))
                found.add((wanted, room.count(2) > 0))
        self.assertEqual(len(found), 4)

    def test_limit(self):
        signs = (((0, -1),),) + tuple(((house - 1, 1),) for house in range(1, 12))
        # Each house hears one other house and has both digits.
        seen = [(0, (0,) * 12, 1), (0, (1,) * 12, 0)]
        for house in range(1, 12):
            seen += [(house, (0,) * 12, 0), (house, (1,) * 12, 1)]
        self.assertTruth(is_surely_minimal(signs, seen, (2,) * 5 + (0,) * 7), False)
        for free in range(6, 13):
            room = (2,) * free + (0,) * (12 - free)
            self.refused(TooLarge, is_surely_minimal, signs, seen, room, count=free, limit=5)
            # A quarrel comes after it.
            self.refused(TooLarge, is_surely_minimal, signs, seen + [(0, (0,) * 12, 0)], room,
                         count=free, limit=5)
        small, seen = signs[:5], [(house, state[:5], digit) for house, state, digit in seen[:10]]
        self.assertTruth(is_surely_minimal(small, seen, (2,) * 5), True)
        self.assertTruth(is_surely_minimal(small, seen[:-1], (2,) * 5), False)
        self.refused(Quarrel, is_surely_minimal, small, seen + [(0, (0,) * 5, 0)], (2,) * 5,
                     first=0, second=10)

    def test_arguments(self):
        rooms = (2, BadRoom, "row", bad_rooms(2))
        self.checked_seen(is_surely_minimal, [SIGNS, (), (0, 2)], rooms)
        self.quarrel_at_last(is_surely_minimal, [SIGNS, QUARREL, (0, 2)], rooms)
        self.checked_seen(is_surely_minimal, [((),) * 12, (), (2,) * 12],
                          (2, BadRoom, "row", bad_rooms(12)))
