"""Point 51: tops, levels, corners and reading rooms."""

import itertools

from oldnews.errors import BadLevels, BadState, BadTop
from oldnews.levels import corner, corner_state, reading_room
from tests.support import VAST, Case, all_states, bad_states

BAD_TOPS = [0, -1, -VAST]


class LevelsTest(Case):
    def test_examples(self):
        self.assertRow(self.unchanged(corner, 3, (0, 1, 1)), (0, 3, 3))
        self.assertRow(self.unchanged(reading_room, 3, (0, 1, 2, 3)), (0, 2, 2, 1))
        self.assertRow(self.unchanged(corner_state, 3, (0, 3, 3)), (0, 1, 1))
        self.assertRow(self.unchanged(corner_state, 3, (0, 2, 3)), None)

    def test_small_tops(self):
        for size in (1, 2, 3):
            for top in (1, 2, 3):
                corners = {}
                for state in all_states(size):
                    levels = tuple(top if digit == 1 else 0 for digit in state)
                    self.assertRow(corner(top, state), levels)
                    corners[levels] = state
                for levels in itertools.product(range(top + 1), repeat=size):
                    marks = tuple({0: 0, top: 1}.get(level, 2) for level in levels)
                    self.assertRow(reading_room(top, levels), marks)
                    self.assertRow(corner_state(top, levels), corners.get(levels))
                    self.assertEqual(corner_state(top, levels) is None, 2 in marks)

    def test_the_top_1(self):
        for state in all_states(4):
            self.assertRow(corner(1, state), state)
            self.assertRow(reading_room(1, state), state)
            self.assertRow(corner_state(1, list(state)), state)

    def test_tops_without_a_limit(self):
        self.assertRow(corner(VAST, (1, 0)), (VAST, 0))
        self.assertRow(reading_room(VAST, (VAST, VAST - 1, 1, 0)), (1, 2, 2, 0))
        self.assertRow(corner_state(VAST, (VAST, 0)), (1, 0))
        self.assertRow(corner_state(VAST, (VAST, 1)), None)

    def test_sizes(self):
        for size in range(1, 13):
            self.assertRow(corner(2, (1,) * size), (2,) * size)
            self.assertRow(reading_room(2, (1,) * size), (2,) * size)
            self.assertRow(corner_state(2, (2,) * size), (1,) * size)

    def test_arguments(self):
        tops = (0, BadTop, "top", BAD_TOPS)
        states = [row for row in bad_states(3) if row == () or len(row) == 13 or len(row) == 3]
        self.checked(corner, [1, (0, 1, 1)], tops, (1, BadState, "row", states))
        for top in (1, 2, VAST):
            levels = [(), (0,) * 13, (1,) * 20, (top + 1,), (0, -1), (-VAST, 0), (0, 1, top + 1)]
            for call in (reading_room, corner_state):
                self.checked(call, [top, (0, 1, top)], tops, (1, BadLevels, "row", levels))
                self.refused(BadLevels, call, top, [0, top, top + 1], row=(0, top, top + 1))
