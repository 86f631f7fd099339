"""Points 41 and 42: groups that serve, and the runs by them."""

import random

from oldnews.errors import BadGroup, BadState, NotServing
from oldnews.leasts import least_room
from oldnews.runs import run_states
from oldnews.serving import run_by_group, serves
from oldnews.webs import Web
from tests.support import (
    COPIES, OPPOSITES, Case, all_groups, all_states, bad_groups, bad_states, constant_web,
    some_webs, states_in_room, takes_by_states,
)
from tests.test_leasts import least_by_rooms


def serves_by_states(web, start, goal, group, room):
    """Whether the group serves, if the room is the least one for it (point 41)."""
    return goal in states_in_room(room) and all(
        takes_by_states(web.rows()[house], room, goal[house])
        for house in range(web.size) if room[house] == 2)


def served_goals(size, many, seed):
    """Some webs with a start, a goal and a group that serves them, and the free houses."""
    rng = random.Random(seed)
    found = []
    for web in some_webs(size, many, seed):
        start = rng.choice(all_states(size))
        group = tuple(house for house in range(size) if rng.randint(0, 3))
        room = least_room(web, start, group=group)
        free = tuple(house for house in range(size) if room[house] == 2)
        goal = list(start)
        for house in free:
            goal[house] = rng.choice([digit for digit in (0, 1) if web.takes(house, room, digit)])
        found.append((web, start, tuple(goal), group, free))
    return found


class RunCase(Case):
    def check_run(self, web, start, goal, run, free):
        """Asserts what point 42 says of a run whose room has these free houses."""
        self.assertFrozen(run)
        states = run_states(web, start, run)
        self.assertEqual(states[-1], goal)
        if not free:
            self.assertRow(run, ())
            return
        self.assertEqual(len(run), len(free) + 1)
        turned = []
        for beat, (before, after) in enumerate(zip(states[:-2], states[1:])):
            self.assertEqual(len(run[beat]), 1)
            house = run[beat][0][0]
            turned.append(house)
            self.assertEqual(before[house], start[house])
            self.assertEqual(after[house], 1 - start[house])
        self.assertEqual(tuple(sorted(turned)), free)
        self.assertEqual(tuple(house for house, ages in run[-1]), free)


class ServingTest(RunCase):
    def test_examples(self):
        web = Web(OPPOSITES)
        self.assertTruth(self.unchanged(serves, web, (0, 0), (1, 1), (0, 1)), True)
        self.assertTruth(self.unchanged(serves, web, (0, 0), (1, 1), (0,)), False)
        self.assertTruth(serves(web, (0, 0), (1, 0), (0,)), True)
        self.assertTruth(serves(web, (0, 0), (0, 0), (0,)), False)
        self.assertTruth(serves(web, (0, 0), (0, 0), (0, 1)), True)
        self.assertTruth(serves(web, (0, 1), (0, 1), (0, 1)), True)
        self.assertTruth(serves(web, (0, 1), (1, 0), (0, 1)), False)
        run = self.unchanged(run_by_group, web, (0, 0), (1, 1), (0, 1))
        self.check_run(web, (0, 0), (1, 1), run, (0, 1))

    def test_goals_that_a_free_house_cannot_have(self):
        web = Web((("rows", (), (1,)), ("rows", (0,), (0, 1))))
        self.assertTruth(serves(web, (0, 0), (0, 1), (0, 1)), False)
        self.assertTruth(serves(web, (0, 0), (1, 1), (0, 1)), True)
        self.assertTruth(serves(web, (0, 0), (1, 0), (0, 1)), True)
        # House 1 stays fixed, and nothing is asked of its table.
        self.assertTruth(serves(web, (1, 0), (1, 0), (0,)), True)
        self.assertTruth(serves(Web(COPIES), (0, 0), (0, 0), (0, 1)), True)

    def test_fixed_houses_of_the_group_are_not_asked(self):
        # Both lamps are off, and house 0, which copies house 1, is not loose.
        web = Web((("rows", (1,), (0, 1)), ("rows", (2,), (0, 1)), ("rows", (), (0,))))
        self.assertTruth(serves(web, (0, 0, 0), (0, 0, 0), (0, 1, 2)), True)
        self.assertRow(run_by_group(web, (0, 0, 0), (0, 0, 0), (0, 1, 2)), ())
        self.refused(NotServing, run_by_group, web, (0, 0, 0), (0, 0, 1), (0, 1, 2))

    def test_the_empty_group(self):
        for web in some_webs(3, 6):
            for start in all_states(3):
                for goal in all_states(3):
                    self.assertTruth(serves(web, start, goal, ()), start == goal)
                self.assertRow(run_by_group(web, start, start, []), ())
                goal = start[:2] + (1 - start[2],)
                self.refused(NotServing, run_by_group, web, start, goal, ())

    def test_against_all_rooms(self):
        served = 0
        for size, many in ((1, 6), (2, 8), (3, 4)):
            for web in some_webs(size, many, seed=2):
                for start in all_states(size)[::1 if size < 3 else 3]:
                    for group in all_groups(size):
                        room = least_by_rooms(web, start, group)
                        free = tuple(house for house in range(size) if room[house] == 2)
                        for goal in all_states(size):
                            wanted = serves_by_states(web, start, goal, group, room)
                            self.assertTruth(serves(web, start, goal, group), wanted)
                            if wanted:
                                served += len(free)
                                run = run_by_group(web, start, goal, group)
                                self.check_run(web, start, goal, run, free)
                            else:
                                self.refused(NotServing, run_by_group, web, start, goal, group)
        self.assertGreater(served, 100)

    def test_large_webs(self):
        for size in (5, 8, 12):
            for web, start, goal, group, free in served_goals(size, 12, seed=3):
                self.assertTruth(serves(web, start, goal, group), True)
                run = run_by_group(web, start, goal, group)
                self.check_run(web, start, goal, run, free)
        # Each house copies the one before it, and lamp 0 can go on.
        web = Web([("rows", (), (1,))] + [("rows", (house,), (0, 1)) for house in range(11)])
        for goal in ((1,) * 12, (1, 0) * 6, (1,) + (0,) * 11):
            run = run_by_group(web, (0,) * 12, goal, tuple(range(12)))
            self.check_run(web, (0,) * 12, goal, run, tuple(range(12)))

    def test_arguments(self):
        for web in (Web(COPIES), constant_web(12)):
            state = (0,) * web.size
            for call in (serves, run_by_group):
                self.checked(call, [web, state, state, (0, 1)],
                             (1, BadState, "row", bad_states(web.size)),
                             (2, BadState, "row", bad_states(web.size)),
                             (3, BadGroup, "row", bad_groups(web.size)))
        # A group that is none comes before a group that does not serve.
        self.refused(BadGroup, run_by_group, Web(COPIES), (0, 0), (1, 1), (2,), row=(2,))
