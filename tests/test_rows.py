"""Points 3 to 5: rooms, their states, meets and joins."""

import itertools

from oldnews.errors import BadRoom, TooLarge
from oldnews.rows import free_houses, join, lies_within, meet, states_of
from tests.support import VAST, Case, all_rooms, inside, room_of, states_in_room

NO_ROOMS = [(), (0,) * 13, (3,), (0, -1), (0, 1, VAST)]


class FreeHousesTest(Case):
    def test_free_and_fixed_houses(self):
        self.assertRow(self.unchanged(free_houses, (2, 0, 1, 2)), (0, 3))
        self.assertRow(free_houses((0, 1)), ())

    def test_sizes(self):
        for size in range(1, 13):
            self.assertRow(free_houses((2,) * size), tuple(range(size)))

    def test_no_room(self):
        for row in NO_ROOMS:
            self.refused(BadRoom, free_houses, row, row=row)
        self.refused(BadRoom, free_houses, [0, 5], row=(0, 5))


class StatesOfTest(Case):
    def test_against_all_states(self):
        for size in range(1, 5):
            for room in all_rooms(size):
                self.assertRow(self.unchanged(states_of, room), tuple(states_in_room(room)))

    def test_a_state_is_its_only_state(self):
        for size in range(1, 13):
            self.assertRow(states_of((1,) * size), ((1,) * size,))

    def test_limit(self):
        self.assertEqual(len(states_of((2,) * 8 + (1,) * 4)), 256)
        self.refused(TooLarge, states_of, (2,) * 9 + (1,) * 3, count=9, limit=8)
        self.refused(TooLarge, states_of, (2,) * 12, count=12, limit=8)

    def test_no_room_comes_before_the_limit(self):
        self.refused(BadRoom, states_of, (2,) * 9 + (3,), row=(2,) * 9 + (3,))
        self.refused(BadRoom, states_of, (2,) * 13, row=(2,) * 13)
        for row in NO_ROOMS:
            self.refused(BadRoom, states_of, row, row=row)


class LiesWithinTest(Case):
    def test_against_states(self):
        for size in (1, 2, 3):
            for room, other in itertools.product(all_rooms(size), repeat=2):
                self.assertTruth(lies_within(room, other), inside(room, other))

    def test_lists(self):
        self.assertTruth(self.unchanged(lies_within, (0, 1), (2, 1)), True)

    def test_size_12(self):
        self.assertTruth(lies_within((0,) * 12, (2,) * 12), True)
        self.assertTruth(lies_within((2,) * 12, (2,) * 11 + (1,)), False)

    def test_no_rooms(self):
        for row in NO_ROOMS:
            self.refused(BadRoom, lies_within, row, (0,), row=row)
        self.refused(BadRoom, lies_within, (0, 1), (0, 3), row=(0, 3))

    def test_two_sizes(self):
        self.refused(BadRoom, lies_within, (0, 1), (0, 1, 1), row=(0, 1, 1))
        self.refused(BadRoom, lies_within, (0, 1), (), row=())

    def test_the_first_one_decides(self):
        self.refused(BadRoom, lies_within, (4,), (5,), row=(4,))


class MeetAndJoinTest(Case):
    def test_two_rooms(self):
        for size in (1, 2, 3):
            for rooms in itertools.product(all_rooms(size), repeat=2):
                self.check(rooms)

    def test_three_rooms(self):
        for rooms in itertools.product(all_rooms(2), repeat=3):
            self.check(rooms)

    def check(self, rooms):
        states = [set(states_in_room(room)) for room in rooms]
        common = states[0].intersection(*states)
        self.assertRow(meet(*rooms), room_of(sorted(common)) if common else None)
        self.assertRow(join(*rooms), room_of(sorted(set().union(*states))))

    def test_one_room(self):
        for size in range(1, 13):
            room = (0, 1, 2, 2, 1, 0, 2, 1, 0, 0, 1, 2)[:size]
            self.assertRow(meet(room), room)
            self.assertRow(join(room), room)

    def test_no_meet(self):
        self.assertIsNone(meet((0, 2), (1, 2)))
        self.assertIsNone(meet((2, 0, 1), (2, 2, 2), (2, 1, 1)))

    def test_lists(self):
        self.assertRow(self.unchanged(meet, (0, 2), (2, 1)), (0, 1))
        self.assertRow(self.unchanged(join, (0, 1), (0, 0)), (0, 2))

    def test_no_rooms(self):
        for call in (meet, join):
            for row in NO_ROOMS:
                self.refused(BadRoom, call, row, row=row)
                self.refused(BadRoom, call, row, (0, 1), row=row)
            self.refused(BadRoom, call, (0, 1), (0, 2), (0, 4), (0,), row=(0, 4))

    def test_two_sizes(self):
        for call in (meet, join):
            self.refused(BadRoom, call, (0, 1), (0, 1), (0, 1, 2), row=(0, 1, 2))
            self.refused(BadRoom, call, (0, 1), (0,), (3,), row=(0,))
            # The rooms are checked although the first two have no meet.
            self.refused(BadRoom, call, (0, 1), (1, 1), (0,), row=(0,))
