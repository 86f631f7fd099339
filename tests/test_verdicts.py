"""Points 113 and 114: verdicts, and claims that are judged."""

import random

from oldnews.errors import BadState, BadTop, TooLarge
from oldnews.fineruns import fine_states
from oldnews.levels import corner
from oldnews.reaching import reaches
from oldnews.refusing import refusal
from oldnews.rows import free_houses
from oldnews.runs import run_states
from oldnews.serving import serves
from oldnews.striking import last_room
from oldnews.verdicts import is_verdict, verdict
from oldnews.webs import Web
from tests.support import (
    COPIES, OPPOSITES, VAST, Case, all_states, bad_states, constant_web, copying_web, listed,
    some_webs,
)

# In the example of point 43 house 0 can be freed but never be set to 0.
NEVER = (("rows", (), (1,)), ("rows", (0,), (0, 1)))


def pairs_of(web, rng=None, many=0):
    states = all_states(web.size)
    if rng is None:
        return [(start, goal) for start in states for goal in states]
    return [(rng.choice(states), rng.choice(states)) for _ in range(many)]


class VerdictTest(Case):
    def test_examples(self):
        found = self.unchanged(verdict, Web(NEVER), (0, 0), (0, 1))
        self.assertRow(found, ("refused", ((((2, 2), (0,)), ((0, 0), ())), 1)))
        self.assertRow(verdict(copying_web(2), (0, 1), (0, 1)), ("reached", (), (), ()))
        found = self.unchanged(verdict, Web(OPPOSITES), (0, 0), (1, 1))
        self.assertEqual((len(found), found[:2]), (4, ("reached", (0, 1))))

    def test_both_kinds(self):
        rng = random.Random(190)
        kinds = set()
        for size, many in ((1, 6), (2, 8), (3, 5), (5, 4)):
            for web in some_webs(size, many, seed=191):
                for start, goal in pairs_of(web, None if size < 3 else rng, 12):
                    for top in (2, 3, 32):
                        found = self.unchanged(verdict, web, start, goal, top=top)
                        self.assertFrozen(found)
                        self.assertTruth(is_verdict(web, start, goal, found, top=top), True)
                        self.assertTruth(is_verdict(web, start, goal, listed(found), top=top),
                                         True)
                        kinds.add((found[0], reaches(web, start, goal)))
                        if found[0] == "refused":
                            self.assertRow(found, ("refused", refusal(web, start, goal)))
                        else:
                            self.check_reached(web, start, goal, found, top)
                    # The top is 2 if none is given.
                    self.assertEqual(verdict(web, start, goal), verdict(web, start, goal, top=2))
        self.assertEqual(kinds, {("refused", False), ("reached", True)})

    def check_reached(self, web, start, goal, found, top):
        _, group, run, fine_run = found
        self.assertEqual(len(found), 4)
        self.assertRow(group, free_houses(last_room(web, start, goal)))
        self.assertTruth(serves(web, start, goal, group), True)
        self.assertEqual(run_states(web, start, run)[-1], goal)
        self.assertEqual(len(run), len(group) + 1 if group else 0)
        for beat in run[:-1]:
            self.assertEqual(len(beat), 1)
        for beat, states in zip(run[:-1], zip(run_states(web, start, run)[1:])):
            house = beat[0][0]
            self.assertEqual(states[0][house], 1 - start[house])
        self.assertEqual(sorted(beat[0][0] for beat in run[:-1]), list(group))
        self.assertEqual([look[0] for beat in run[-1:] for look in beat], list(group))
        self.assertEqual(fine_states(web, top, start, fine_run)[-1], corner(top, goal))
        self.assertLessEqual(len(fine_run), len(group) + top - 1 if group else 0)
        self.assertLessEqual({move[0] for beat in fine_run for move in beat}, set(group))

    def test_twelve_houses(self):
        rng = random.Random(192)
        for web in some_webs(12, 10, seed=193):
            start, goal = (tuple(rng.randint(0, 1) for _ in range(12)) for _ in range(2))
            found = verdict(web, start, goal, top=7)
            self.assertEqual(found[0] == "reached", reaches(web, start, goal))
            self.assertTruth(is_verdict(web, start, goal, found, top=7), True)

    def test_the_top(self):
        for web, start, goal in ((Web(OPPOSITES), (0, 0), (1, 1)), (Web(NEVER), (0, 0), (0, 1))):
            found = verdict(web, start, goal)
            for top in (1, 0, -1, -VAST):
                self.refused(BadTop, lambda: verdict(web, start, goal, top=top), top=top)
                self.refused(BadTop, lambda: is_verdict(web, start, goal, found, top=top), top=top)
            for top in (33, 100, VAST):
                self.refused(TooLarge, lambda: verdict(web, start, goal, top=top), count=top,
                             limit=32)
                for claim in (found, (), ("refused",)):
                    self.refused(TooLarge, lambda: is_verdict(web, start, goal, claim, top=top),
                                 count=top, limit=32)
            for top in (2, 32):
                self.assertTruth(is_verdict(web, start, goal,
                                            verdict(web, start, goal, top=top), top=top), True)

    def test_arguments(self):
        for web in (Web(COPIES), constant_web(12)):
            state = (0,) * web.size
            states = bad_states(web.size)
            faults = ((0, BadState, "row", states), (1, BadState, "row", states[::-1]),
                      (2, BadTop, "top", [1, 0, -1, -VAST]))
            self.checked(lambda start, goal, top: verdict(web, start, goal, top=top),
                         [state, state, 2], *faults)
            for claim in ((), ("refused", ((), -1)), ("reached", (-1,), (), ())):
                self.checked(lambda start, goal, top: is_verdict(web, start, goal, claim, top=top),
                             [state, state, 2], *faults)


class ClaimTest(Case):
    def wrong(self, web, start, goal, claim, top=2):
        self.assertTruth(is_verdict(web, start, goal, claim, top=top), False)
        self.assertTruth(is_verdict(web, start, goal, listed(claim), top=top), False)

    def test_numbers_of_items(self):
        reached = verdict(Web(OPPOSITES), (0, 0), (1, 1))
        refused = verdict(Web(NEVER), (0, 0), (0, 1))
        for web, start, goal in ((Web(OPPOSITES), (0, 0), (1, 1)), (Web(NEVER), (0, 0), (0, 1))):
            for claim in ((), ("reached",), ("refused",), reached[:3], reached + ((),),
                          refused + ((),), ("reached", refused[1]), ("refused",) + reached[1:],
                          ("never",) + reached[1:], ("never", refused[1]), ("", ()),
                          ("Reached",) + reached[1:], ("Refused", refused[1])):
                self.wrong(web, start, goal, claim)
        # A right claim for another start and goal.
        self.wrong(Web(OPPOSITES), (0, 0), (1, 1), refused)
        self.wrong(Web(NEVER), (0, 0), (0, 1), reached)
        self.wrong(Web(OPPOSITES), (0, 0), (1, 0), reached)

    def test_each_part_of_a_refusal(self):
        web, start, goal = Web(NEVER), (0, 0), (0, 1)
        room, last = ((2, 2), (0,)), ((0, 0), ())
        self.assertTruth(is_verdict(web, start, goal, ("refused", ((room, last), 1))), True)
        for entries, house in (
                ((room, last), 0), ((room, last), 2), ((room, last), -1), ((room, last), VAST),
                ((), 1), ((last,), 1), ((room,), 1), ((last, room), 1),
                ((((2, 2), ()), last), 1), ((((2, 2), (1,)), last), 1),
                ((((2, 2), (0, 1)), last), 1), ((((2, 2), (VAST,)), last), 1),
                ((((2, 2), (0, 0)), last), 1), ((((2, 2), (-1,)), last), 1),
                ((((0, 2), (0,)), last), 1), ((((2, 3), (0,)), last), 1),
                ((((2, VAST), (0,)), last), 1), ((((2,), (0,)), last), 1), ((((), ()), last), 1),
                ((((1, 2), (0,)), last), 1), ((room, ((0, 1), ())), 1), ((room, ((2, 0), ())), 1),
                ((room, ((0, 0), (0,))), 1), ((room, ((0, -VAST), ())), 1)):
            self.wrong(web, start, goal, ("refused", (entries, house)))

    def test_each_part_of_what_is_reached(self):
        web, start, goal, top = Web(OPPOSITES), (0, 0), (1, 1), 2
        group = (0, 1)
        run = (((0, (0,)),), ((1, (1,)),))
        fine_run = (((0, 1, (0,)), (1, 1, (0,))), ((0, 1, (0,)), (1, 1, (0,))))
        claim = ("reached", group, run, fine_run)
        self.assertTruth(is_verdict(web, start, goal, claim), True)
        for other in ((), (0,), (1,), (1, 0), (0, 0), (0, 1, 2), (0, VAST), (-1, 0, 1), (-VAST,)):
            self.wrong(web, start, goal, ("reached", other, run, fine_run))
        for other in ((), run[:1], run[1:], run + (((0, (0,)),),), run + (((0, (-1,)),),),
                      (((0, (1,)),), ((1, (1,)),)), (((0, (0,)),), ((1, (0,)),)),
                      (((0, (0,)),), ((1, (VAST,)),)), (((0, (-VAST,)),), ((1, (1,)),)),
                      (((0, ()),), ((1, (1,)),)), (((0, (0, 0)),), ((1, (1,)),)),
                      (((2, (0,)),), ((1, (1,)),)), (((-1, (0,)),), ((1, (1,)),)),
                      (((VAST, (0,)),), ((1, (1,)),)), (((1, (0,)), (0, (0,))),),
                      (((0, (0,)), (0, (0,))), ((1, (1,)),))):
            self.wrong(web, start, goal, ("reached", group, other, fine_run))
        for other in ((), fine_run[:1], fine_run + (((0, -1, (1,)),),), fine_run + (((0, 1, (0,)),),),
                      (((0, 1, (0,)),),) + fine_run[1:], (((1, 1, (0,)), (0, 1, (0,))),) + fine_run[1:],
                      (((0, 1, (0,)), (0, 1, (0,))),) + fine_run[1:],
                      (((0, 2, (0,)), (1, 2, (0,))),), (((0, VAST, (0,)), (1, 1, (0,))), fine_run[1]),
                      (((0, 0, (0,)), (1, 1, (0,))),) + fine_run[1:],
                      (((0, 1, (1,)), (1, 1, (0,))),) + fine_run[1:],
                      (((0, 1, (2,)), (1, 1, (0,))),) + fine_run[1:],
                      (((0, 1, (VAST,)), (1, 1, (0,))),) + fine_run[1:],
                      (((0, 1, ()), (1, 1, (0,))),) + fine_run[1:],
                      (((0, 1, (0, 0)), (1, 1, (0,))),) + fine_run[1:],
                      (((-1, 1, (0,)), (1, 1, (0,))),) + fine_run[1:],
                      (((0, 1, (0,)), (2, 1, (0,))),) + fine_run[1:],
                      (((0, 1, (0,)), (VAST, 1, (0,))),) + fine_run[1:],
                      (((0, -1, (0,)), (1, 1, (0,))),) + fine_run[1:]):
            self.wrong(web, start, goal, ("reached", group, run, other))
        # The fine run is one for the given top.
        for top in (3, 32):
            self.wrong(web, start, goal, claim, top=top)
            longer = claim[:3] + (fine_run[:1] * top,)
            self.assertTruth(is_verdict(web, start, goal, longer, top=top), True)
            self.wrong(web, start, goal, longer)

    def test_other_runs_than_those_of_a_verdict(self):
        # Any runs of valid looks and good moves will do, and other groups that serve.
        web, start = Web(OPPOSITES + (("rows", (), (1,)),)), (0, 0, 0)
        run = (((0, (0,)),), (), ((0, (0,)),), ((1, (3,)),), ((0, (0,)), (1, (0,))))
        fine_run = (((0, 1, (0,)), (1, 1, (0,))), (), ((0, -1, (1,)), (1, -1, (1,))))
        for group in ((), (0, 1)):
            self.assertTruth(is_verdict(web, start, start, ("reached", group, (), ())), True)
            self.assertTruth(is_verdict(web, start, start, ("reached", group, run, fine_run)), True)
            self.wrong(web, start, start, ("reached", group, run[:4], fine_run))
            self.wrong(web, start, start, ("reached", group, run, fine_run[:1]))
        # Lamp 2 does not go off again, so no group with house 2 serves.
        self.wrong(web, start, start, ("reached", (0, 1, 2), run, fine_run))
        # The houses that look need not be in the group.
        end = (0, 0, 1)
        long_run = (((0, (0,)),), ((1, (1,)),), ((0, (0,)), (1, (0,))), ((2, ()),))
        self.assertEqual(run_states(web, start, long_run)[-1], end)
        self.assertTruth(is_verdict(web, start, end, (
            "reached", (2,), long_run, (((2, 1, ()),), ((2, 1, ()),)))), True)

    def test_random_changes(self):
        rng = random.Random(194)
        for web in some_webs(3, 10, seed=195):
            for start, goal in pairs_of(web, rng, 8):
                found = verdict(web, start, goal)
                for wrong in (VAST, -VAST, 13, -2):
                    for claim in changed(found[1:], wrong):
                        self.wrong(web, start, goal, found[:1] + claim)


def changed(value, wrong):
    """All rows that differ from the row in one number, which is the wrong one."""
    if not isinstance(value, tuple):
        return [wrong]
    return [value[:k] + (other,) + value[k + 1:] for k in range(len(value))
            for other in changed(value[k], wrong)]
