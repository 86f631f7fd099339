"""Points 33 to 35: looks, what they read, and the room of what can be read."""

import itertools

from oldnews.errors import BadAge, BadRun, BadState
from oldnews.looks import read_digits, window_room
from oldnews.webs import Web
from tests.support import VAST, Case, all_states, room_of

WEB = Web((("rows", (0, 2), (0, 1, 1, 0)), ("terms", ((0, 1), (1, -1), (2, 1)), ()),
           ("rows", (), (1,))))
STATES = ((0, 0, 1), (1, 0, 0), (0, 1, 0))


class ReadDigitsTest(Case):
    def test_each_age(self):
        for ages in itertools.product((0, 1, 2), repeat=2):
            wanted = (STATES[2 - ages[0]][0], STATES[2 - ages[1]][2])
            self.assertRow(self.unchanged(read_digits, WEB, STATES, (0, ages)), wanted)
        self.assertRow(read_digits(WEB, STATES, (1, (0, 1, 2))), (0, 0, 1))

    def test_no_heard_house(self):
        self.assertRow(read_digits(WEB, [[0, 0, 0]], [2, []]), ())

    def test_states_need_not_be_those_of_a_run(self):
        self.assertRow(read_digits(WEB, [(0, 0, 0), (1, 1, 1)], (0, (1, 0))), (0, 1))

    def test_one_state(self):
        self.assertRow(read_digits(WEB, [(1, 0, 1)], (0, (0, 0))), (1, 1))
        self.refused(BadRun, read_digits, WEB, [(1, 0, 1)], (0, (0, 1)), beat=0, place=0)

    def test_looks_that_are_not_valid(self):
        for look in ((3, ()), (-1, ()), (-2, (0, 0, 0)), (-1, (0, 0)), (VAST, ()), (0, ()), (0, (0,)), (0, (0, 0, 0)),
                     (2, (0,)), (0, (0, 3)), (0, (-1, 0)), (0, (VAST, 0)), (1, (0, 0, -VAST))):
            self.refused(BadRun, read_digits, WEB, STATES, look, beat=2, place=0)
            self.refused(BadRun, read_digits, WEB, STATES, [look[0], list(look[1])],
                         beat=2, place=0)

    def test_states_that_do_not_fit(self):
        self.refused(BadState, read_digits, WEB, (), (9, ()), row=())
        self.refused(BadState, read_digits, WEB, [], (9, ()), row=())
        for row in ((), (0, 0), (0, 0, 0, 0), (0, 2, 0), (0, 0, -1), (VAST, 0, 0)):
            for states in ([row], [STATES[0], list(row), (5,)], STATES + (row,)):
                self.refused(BadState, read_digits, WEB, states, (9, ()), row=row)


class WindowRoomTest(Case):
    def test_ages(self):
        self.assertRow(window_room(STATES, 0), (0, 1, 0))
        self.assertRow(self.unchanged(window_room, STATES, 1), (2, 2, 0))
        self.assertRow(window_room(STATES, 2), (2, 2, 2))
        for age in (3, 4, 100, VAST):
            self.assertRow(window_room(STATES, age), (2, 2, 2))

    def test_joins(self):
        for states in itertools.product(all_states(2), repeat=3):
            for age in range(5):
                self.assertRow(window_room(states, age), room_of(states[-1 - age:]
                                                                 if age < 3 else states))

    def test_sizes(self):
        for size in range(1, 13):
            states = [(0,) * size, (0,) * (size - 1) + (1,)]
            self.assertRow(window_room(states, 0), states[1])
            self.assertRow(window_room(states, VAST), (0,) * (size - 1) + (2,))

    def test_what_can_be_read(self):
        for age in range(3):
            room = window_room(STATES, age)
            for house in range(3):
                digits = {state[house] for state in STATES[2 - age:]}
                self.assertEqual(digits, {0, 1} if room[house] == 2 else {room[house]})

    def test_states_that_do_not_fit(self):
        self.refused(BadState, window_room, (), -1, row=())
        for row in ((), (0,) * 13, (0, 2), (-1,), (0, VAST)):
            self.refused(BadState, window_room, [row, (7,)], -1, row=row)
        for row in ((), (0,), (0, 0, 0), (0, 2), (0,) * 13):
            self.refused(BadState, window_room, [(0, 1), list(row), ()], -1, row=row)
            self.refused(BadState, window_room, [(0, 1), (1, 1), row], 0, row=row)

    def test_ages_below_0(self):
        for age in (-1, -2, -VAST):
            self.refused(BadAge, window_room, STATES, age, age=age)
