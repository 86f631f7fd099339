"""Points 32 to 34 and 36: runs by old news."""

import random

from oldnews.errors import BadRun, BadState
from oldnews.runs import changed_houses, eldest_age, run_states
from oldnews.webs import Web
from tests.support import OPPOSITES, VAST, Case, all_states, digit_at, some_webs

EXAMPLE = (((0, (0,)),), ((1, (1,)),))


def states_by_hand(rows, start, run):
    states = [start]
    for beat in run:
        after = list(states[-1])
        for house, ages in beat:
            read = [0] * len(rows)
            heard = [item if rows[house][0] == "rows" else item[0] for item in rows[house][1]]
            for other, age in zip(heard, ages):
                read[other] = states[len(states) - 1 - age][other]
            after[house] = digit_at(rows[house], read)
        states.append(tuple(after))
    return tuple(states)


def some_run(rng, web, beats):
    run = []
    for beat in range(beats):
        houses = [house for house in range(web.size) if rng.randint(0, 1)]
        run.append(tuple((house, tuple(rng.randint(0, beat) for _ in web.hears(house)))
                         for house in houses))
    return tuple(run)


class RunStatesTest(Case):
    def test_example(self):
        web = Web(OPPOSITES)
        self.assertRow(self.unchanged(run_states, web, (0, 0), EXAMPLE), ((0, 0), (1, 0), (1, 1)))
        self.assertRow(run_states(web, (0, 0), EXAMPLE[:1]), ((0, 0), (1, 0)))
        # With the age 0, house 1 reads the lamp that is on by now.
        self.assertRow(run_states(web, (0, 0), (EXAMPLE[0], ((1, (0,)),))),
                       ((0, 0), (1, 0), (1, 0)))

    def test_houses_look_all_at_once(self):
        self.assertRow(run_states(Web(OPPOSITES), (0, 0), [[[0, [0]], [1, [0]]]]),
                       ((0, 0), (1, 1)))

    def test_empty_beats_and_the_empty_run(self):
        web = Web(OPPOSITES)
        self.assertRow(run_states(web, [0, 1], ()), ((0, 1),))
        self.assertRow(run_states(web, (0, 1), ((), ())), ((0, 1),) * 3)
        self.assertRow(run_states(web, (0, 0), ((), ((0, (1,)),))), ((0, 0), (0, 0), (1, 0)))

    def test_by_hand(self):
        rng = random.Random(11)
        for size in (1, 2, 4, 6):
            for web in some_webs(size, 12):
                run = some_run(rng, web, 8)
                start = rng.choice(all_states(size))
                self.assertRow(run_states(web, start, run),
                               states_by_hand(web.rows(), start, run))

    def test_one_run_behind_another(self):
        rng = random.Random(12)
        for web in some_webs(3, 20):
            first, second = some_run(rng, web, 4), some_run(rng, web, 4)
            states = run_states(web, (0, 1, 0), first)
            further = run_states(web, states[-1], second)
            self.assertRow(run_states(web, (0, 1, 0), first + second), states + further[1:])

    def test_ages_from_0_to_the_beat(self):
        web = Web(OPPOSITES)
        for beat in range(4):
            for age in range(beat + 1):
                self.assertEqual(len(run_states(web, (0, 0), ((),) * beat + (((1, (age,)),),))),
                                 beat + 2)
            for age in (beat + 1, beat + 2, -1, VAST, -VAST):
                self.refused(BadRun, run_states, web, (0, 0), ((),) * beat + (((1, (age,)),),),
                             beat=beat, place=0)


class BadRunTest(Case):
    def bad(self, looks, place):
        web = Web(OPPOSITES + (("rows", (), (1,)), ("rows", (0, 1), (0, 0, 0, 1))))
        start = (0, 0, 0, 0)
        self.refused(BadRun, run_states, web, start, (looks,), beat=0, place=place)
        run = ((), EXAMPLE[1], looks, ((9, ()),))
        self.refused(BadRun, run_states, web, start, run, beat=2, place=place)

    def test_houses(self):
        for house in (-1, 4, VAST, -VAST):
            self.bad(((house, (0,)),), 0)
            self.bad(((0, (0,)), (house, (0,))), 1)

    def test_houses_in_ascending_order(self):
        self.bad(((1, (0,)), (0, (0,))), 1)
        self.bad(((1, (0,)), (1, (0,))), 1)
        self.bad(((0, (0,)), (2, ()), (1, (0,)), (9, ())), 2)

    def test_number_of_ages(self):
        self.bad(((0, ()),), 0)
        self.bad(((0, (0, 0)),), 0)
        self.bad(((1, (0,)), (2, (0,))), 1)
        self.bad(((0, (0,)), (1, (0,)), (3, (0,))), 2)

    def test_ages(self):
        self.bad(((0, (3,)),), 0)
        self.bad(((0, (0,)), (1, (0,)), (2, ()), (3, (0, -1))), 3)
        self.bad(((0, (0,)), (3, (-1, 0))), 1)

    def test_the_first_one_in_order(self):
        self.bad(((0, (0,)), (1, ()), (9, ()), (0, (7,))), 1)

    def test_the_start_comes_first(self):
        web = Web(OPPOSITES)
        for start in ((), (0,), (0, 0, 0), (0, 2), (-1, 0), (VAST, 0)):
            self.refused(BadState, run_states, web, list(start), (((9, ()),),), row=start)
            self.refused(BadState, run_states, web, start, (), row=start)


class AgesAndChangesTest(Case):
    def test_eldest_age(self):
        self.assertRow(eldest_age(()), 0)
        self.assertRow(eldest_age(((), ())), 0)
        self.assertRow(eldest_age((((2, ()),),)), 0)
        self.assertRow(self.unchanged(eldest_age, EXAMPLE), 1)
        self.assertRow(eldest_age((((0, (0, 3)), (1, (5,))), ((0, (4, 1)),))), 5)

    def test_eldest_age_does_not_check(self):
        self.assertRow(eldest_age((((99, (7,)), (3, (VAST, 8))),)), VAST)

    def test_changed_houses(self):
        self.assertRow(self.unchanged(changed_houses, ((0, 0, 1), (0, 1, 1), (0, 0, 1))), (1,))
        self.assertRow(changed_houses([[1, 0]]), ())
        self.assertRow(changed_houses(((1, 0), (0, 1))), (0, 1))
        for size in range(1, 13):
            self.assertRow(changed_houses([(0,) * size, (1,) * size]), tuple(range(size)))

    def test_changed_houses_checks_states(self):
        self.refused(BadState, changed_houses, (), row=())
        for row in ((), (0,) * 13, (0, 2), (-1,), (0, VAST)):
            self.refused(BadState, changed_houses, [list(row), (7,)], row=row)
        for row in ((), (0,), (0, 0, 0), (0, 2)):
            self.refused(BadState, changed_houses, [(0, 1), (1, 1), row, (4,)], row=row)
