"""Points 52 to 54: moves, fine beats and fine runs."""

import itertools
import random

from oldnews.errors import BadRun, BadState, BadTop
from oldnews.fineruns import fine_states
from oldnews.webs import Web
from tests.support import (
    COPIES, OPPOSITES, VAST, Case, all_states, bad_states, constant_web, digit_at, some_webs,
)
from tests.test_levels import BAD_TOPS

BEAT = ((0, 1, (0,)), (1, 1, (0,)))


def heard_by_row(row):
    return [item if row[0] == "rows" else item[0] for item in row[1]]


def good_moves(rows, top, levels):
    """All good moves, each alone in its beat, by points 52 and 53."""
    moves = []
    for house, row in enumerate(rows):
        heard = heard_by_row(row)
        for digits in itertools.product((0, 1), repeat=len(heard)):
            if not all(levels[other] < top if digit == 0 else levels[other] > 0
                       for other, digit in zip(heard, digits)):
                continue
            state = [0] * len(rows)
            for other, digit in zip(heard, digits):
                state[other] = digit
            step = 1 if digit_at(row, state) == 1 else -1
            if 0 <= levels[house] + step <= top:
                moves.append((house, step, digits))
    return moves


def some_fine_run(rng, rows, top, start, beats):
    """A fine run of good moves, and the levels at the start and after each of its beats."""
    levels = tuple(top * digit for digit in start)
    run, steps = [], [levels]
    for _ in range(beats):
        beat = []
        for move in rng.sample(good_moves(rows, top, levels), k=len(good_moves(rows, top, levels))):
            if rng.randint(0, 1) and move[0] not in [other[0] for other in beat]:
                beat.append(move)
        run.append(tuple(sorted(beat)))
        after = list(levels)
        for house, step, _ in beat:
            after[house] += step
        levels = tuple(after)
        steps.append(levels)
    return tuple(run), tuple(steps)


class FineStatesTest(Case):
    def test_example(self):
        web = Web(OPPOSITES)
        self.assertRow(self.unchanged(fine_states, web, 2, (0, 0), (BEAT, BEAT)),
                       ((0, 0), (1, 1), (2, 2)))
        self.assertRow(fine_states(web, 1, (0, 0), (BEAT,)), ((0, 0), (1, 1)))

    def test_empty_beats_and_the_empty_run(self):
        web = Web(OPPOSITES)
        self.assertRow(fine_states(web, 3, [0, 1], ()), ((0, 3),))
        self.assertRow(fine_states(web, 3, (0, 1), [[], ()]), ((0, 3),) * 3)

    def test_moves_are_made_at_the_same_time(self):
        # After the first move alone, lamp 0 is on, and house 1 could not go up with the top 1.
        web = Web(OPPOSITES)
        self.assertRow(fine_states(web, 1, (0, 0), (BEAT,)), ((0, 0), (1, 1)))
        self.refused(BadRun, fine_states, web, 1, (0, 0), (BEAT[:1], BEAT[1:]), beat=1, place=0)
        self.assertRow(fine_states(web, 2, (0, 0), (BEAT[:1], BEAT[1:])),
                       ((0, 0), (1, 0), (1, 1)))
        # What the first move of a beat makes readable is not readable in this beat.
        beat = ((0, 1, (0,)), (1, -1, (1,)))
        self.refused(BadRun, fine_states, web, 2, (0, 1), (beat,), beat=0, place=0)
        rows = (("rows", (), (1,)), ("rows", (0,), (0, 1)))
        self.refused(BadRun, fine_states, Web(rows), 2, (0, 0), (((0, 1, ()), (1, 1, (1,))),),
                     beat=0, place=1)

    def test_unlike_digits_of_the_same_house(self):
        # Houses 1 and 2 copy house 0, which goes on for good.
        web = Web((("rows", (), (1,)), ("rows", (0,), (0, 1)), ("rows", (0,), (0, 1))))
        run = (((0, 1, ()),), ((1, 1, (1,)), (2, -1, (0,))))
        self.assertRow(fine_states(web, 2, (0, 0, 1), run), ((0, 0, 2), (1, 0, 2), (1, 1, 1)))

    def test_a_house_that_hears_itself(self):
        web = Web((("rows", (0,), (1, 0)),))
        self.assertRow(fine_states(web, 2, (0,), (((0, 1, (0,)),), ((0, -1, (1,)),))),
                       ((0,), (1,), (0,)))
        self.assertRow(fine_states(web, 2, (0,), (((0, 1, (0,)),), ((0, 1, (0,)),))),
                       ((0,), (1,), (2,)))
        self.refused(BadRun, fine_states, web, 2, (0,), (((0, -1, (1,)),),), beat=0, place=0)

    def test_tops_without_a_limit(self):
        self.assertRow(fine_states(Web(OPPOSITES), VAST, (0, 1), ()), ((0, VAST),))
        self.assertRow(fine_states(Web(OPPOSITES), VAST, (1, 1), (((0, -1, (1,)),),)),
                       ((VAST, VAST), (VAST - 1, VAST)))

    def test_by_hand(self):
        rng = random.Random(16)
        for size, many in ((1, 6), (2, 20), (3, 20), (6, 6), (12, 2)):
            for web in some_webs(size, many, seed=21):
                for top in (1, 2, 3, 7):
                    start = rng.choice(all_states(size))
                    run, levels = some_fine_run(rng, web.rows(), top, start, 6)
                    self.assertRow(fine_states(web, top, start, run), levels)

    def test_all_moves_of_small_webs(self):
        rng = random.Random(17)
        bad = 0
        for web in some_webs(2, 20, seed=22):
            for top in (1, 2):
                start = rng.choice(all_states(2))
                run, levels = some_fine_run(rng, web.rows(), top, start, 3)
                good = good_moves(web.rows(), top, levels[-1])
                for house in range(2):
                    count = len(heard_by_row(web.rows()[house]))
                    for digits in itertools.product((0, 1), repeat=count):
                        for step in (1, -1):
                            move = (house, step, digits)
                            if move in good:
                                fine_states(web, top, start, run + ((move,),))
                            else:
                                bad += 1
                                self.refused(BadRun, fine_states, web, top, start,
                                             run + ((move,), BEAT), beat=3, place=0)
        self.assertGreater(bad, 100)

    def test_arguments(self):
        # Fine runs are checked last.
        run = (((9, 7, ()),),)
        for web in (Web(COPIES), constant_web(12)):
            self.checked(lambda web, top, start: fine_states(web, top, start, run),
                         [web, 1, (0,) * web.size], (1, BadTop, "top", BAD_TOPS),
                         (2, BadState, "row", bad_states(web.size)))


class BadMoveTest(Case):
    """Each way in which one move alone is not good."""

    web = Web(OPPOSITES + (("rows", (), (1,)), ("rows", (0, 1), (0, 0, 0, 1))))
    start = (0, 0, 0, 0)

    def bad(self, moves, place, top=2, start=None):
        start = self.start if start is None else start
        self.refused(BadRun, fine_states, self.web, top, start, (moves,), beat=0, place=place)
        self.refused(BadRun, fine_states, self.web, top, start, ((), (), moves, ((9, 1, ()),)),
                     beat=2, place=place)

    def test_a_beat_that_is_good(self):
        self.assertRow(fine_states(self.web, 2, self.start, (BEAT + ((2, 1, ()),),))[-1],
                       (1, 1, 1, 0))

    def test_houses(self):
        for house in (-1, 4, VAST, -VAST):
            self.bad(((house, 1, (0,)),), 0)
            self.bad(((0, 1, (0,)), (house, 1, (0,))), 1)

    def test_houses_in_ascending_order(self):
        self.bad((BEAT[1], BEAT[0]), 1)
        self.bad((BEAT[0], BEAT[0]), 1)
        self.bad((BEAT[0], (2, 1, ()), BEAT[1]), 2)

    def test_steps(self):
        for step in (0, 2, -2, VAST, -VAST):
            self.bad(((0, step, (0,)),), 0)
            self.bad((BEAT[0], (1, step, (0,))), 1)
        # The table of house 3 gives 0, and the level after the step would not be outside.
        for step, lamp in ((0, 0), (0, 1), (-2, 1), (2, 0)):
            self.bad(((3, step, (0, 0)),), 0, start=(0, 0, 0, lamp))

    def test_the_number_of_digits(self):
        for digits in ((), (0, 0), (0,) * 1000):
            self.bad(((0, 1, digits),), 0)
        self.bad(BEAT + ((2, 1, (0,)),), 2)
        self.bad(BEAT + ((3, -1, (0,)),), 2)

    def test_digits_that_cannot_be_read(self):
        for digit in (2, -1, VAST, -VAST):
            self.bad(((0, 1, (digit,)),), 0)
        # Lamp 1 is off, so 1 cannot be read of it; lamp 0 is on, so 0 cannot.
        self.bad(((0, -1, (1,)),), 0, start=(1, 0, 0, 0))
        self.bad(((1, 1, (0,)),), 0, start=(1, 0, 0, 0))
        self.bad(((3, -1, (0, 0)),), 0, start=(1, 1, 0, 1))
        self.bad(((3, -1, (1, 0)),), 0, start=(1, 1, 0, 1))
        # With the top 1 a level is 0 or the top.
        self.bad(((1, 1, (0,)),), 0, top=1, start=(1, 0, 0, 0))

    def test_steps_against_the_table(self):
        self.bad(((0, -1, (0,)),), 0, start=(1, 0, 0, 0))
        self.bad(((1, 1, (1,)),), 0, start=(1, 0, 0, 0))
        self.bad(((2, -1, ()),), 0, start=(0, 0, 1, 0))

    def test_levels_outside(self):
        self.bad(((0, 1, (0,)),), 0, start=(1, 0, 0, 0))
        self.bad(((3, -1, (0, 0)),), 0)
        self.bad(((2, 1, ()),), 0, start=(0, 0, 1, 0))
        for top in (1, 2, 5):
            up = (((2, 1, ()),),)
            self.assertEqual(fine_states(self.web, top, self.start, up * top)[-1], (0, 0, top, 0))
            self.refused(BadRun, fine_states, self.web, top, self.start, up * (top + 1),
                         beat=top, place=0)

    def test_the_first_one_in_order(self):
        self.bad(((0, 1, (0,)), (1, 1, ()), (9, 1, ()), (0, 7, (7,))), 1)
        self.refused(BadRun, fine_states, self.web, 2, self.start,
                     (BEAT, (BEAT[0], (1, 5, (0,))), ((0, 0, ()),)), beat=1, place=1)
