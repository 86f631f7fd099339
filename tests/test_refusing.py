"""Points 47 and 48: refusals, and what they show."""

import random

from oldnews.errors import BadState, IsReached
from oldnews.newsearch import reached_by_news
from oldnews.reaching import reaches
from oldnews.refusing import is_refusal, refusal
from oldnews.striking import strikes
from oldnews.webs import Web
from tests.support import (
    OPPOSITES, VAST, Case, all_groups, all_rooms, all_states, bad_groups, bad_rooms,
    bad_states, constant_web, inside, listed, some_webs,
)
from tests.test_closing import loose_by_states
from tests.test_striking import EXAMPLE, unfit_by_states

CLAIM = ((((2, 2), (0,)), ((0, 0), ())), 1)


def is_right(web, start, goal, claim):
    """Point 48, condition by condition, for claims of rooms, groups and houses of the web."""
    entries, house = claim
    kept = tuple(range(web.size))
    for room, struck in entries:
        free = [other for other in range(web.size) if room[other] == 2]
        unfit = unfit_by_states(web, room, goal)
        if not (inside(start, room) and set(free) <= set(kept)
                and loose_by_states(web, room, kept) == () and set(struck) <= set(unfit)):
            return False
        kept = tuple(other for other in kept if other not in struck)
    return len(entries) > 0 and entries[-1][0][house] not in (2, goal[house])


class RefusalTest(Case):
    def test_example(self):
        web = Web(EXAMPLE)
        self.assertRow(self.unchanged(refusal, web, (0, 0), (0, 1)), CLAIM)
        self.assertTruth(self.unchanged(is_refusal, web, (0, 0), (0, 1), CLAIM), True)
        self.assertRow(refusal(Web(OPPOSITES), (0, 1), (1, 0)), ((((0, 1), ()),), 0))

    def test_all_starts_and_goals(self):
        refused = 0
        for size, many in ((1, 6), (2, 20), (3, 10), (4, 2)):
            for web in some_webs(size, many, seed=13):
                for start in all_states(size):
                    states = reached_by_news(web, start)
                    for goal in all_states(size):
                        if goal in states:
                            self.refused(IsReached, refusal, web, start, goal)
                            continue
                        rounds = strikes(web, start, goal)
                        room = rounds[-1][1]
                        wrong = [house for house in range(size)
                                 if room[house] not in (2, goal[house])]
                        claim = refusal(web, start, goal)
                        self.assertRow(claim, (tuple(made[1:] for made in rounds), min(wrong)))
                        self.assertTruth(is_refusal(web, start, goal, claim), True)
                        refused += len(rounds) > 1
        self.assertGreater(refused, 20)

    def test_arguments(self):
        for web in (Web(OPPOSITES), constant_web(12)):
            start = (1, BadState, "row", bad_states(web.size))
            goal = (2, BadState, "row", bad_states(web.size))
            state = (0,) * web.size
            self.checked(refusal, [web, state, state], start, goal)
            self.checked(is_refusal, [web, state, state, ((), 0)], start, goal)


class ClaimTest(Case):
    """The example of point 43 with a house 2 that keeps its lamp."""

    web = Web(EXAMPLE + (("rows", (2,), (0, 1)),))
    start, goal = (0, 0, 0), (0, 1, 0)
    entries = (((2, 2, 0), (0,)), ((0, 0, 0), ()))

    def claims(self, claim, wanted):
        for given in (claim, listed(claim)):
            self.assertTruth(is_refusal(self.web, self.start, self.goal, given), wanted)
            self.assertEqual(listed(given), listed(claim))

    def test_the_claim_that_is_changed_below(self):
        self.assertRow(refusal(self.web, self.start, self.goal), (self.entries, 1))
        self.claims((self.entries, 1), True)

    def test_without_entries(self):
        for house in (0, 1, 2, 3, -1, VAST):
            self.claims(((), house), False)

    def test_rows_that_are_no_rooms(self):
        for room in bad_rooms(3) + [(2, 2, 7), (VAST, 2, 2), (0,) * 10000]:
            self.claims((((room, (0,)), self.entries[1]), 1), False)
            self.claims((((room, ()), self.entries[1]), 1), False)
            self.claims(((self.entries[0], (room, ())), 1), False)
            self.claims((self.entries + ((room, ()),), 1), False)

    def test_rooms_without_the_start(self):
        # The room is closed, and its last mark is not the goal's either.
        self.claims(((((2, 2, 1), (0,)), self.entries[1]), 1), False)
        self.claims(((((2, 2, 1), (0,)), ((0, 0, 1), ())), 1), False)
        self.claims(((self.entries[0], ((0, 0, 1), ())), 1), False)

    def test_free_houses_outside_the_kept_group(self):
        # House 0 has been struck, and so it may not be free.
        self.claims(((self.entries[0], ((2, 0, 0), ())), 1), False)
        self.claims((self.entries + (((2, 0, 0), ()),), 1), False)
        self.claims((self.entries + (self.entries[0],), 1), False)

    def test_rooms_that_are_not_closed(self):
        self.claims(((((0, 0, 0), ()),), 1), False)
        self.claims(((((2, 0, 0), (0,)), self.entries[1]), 1), False)
        # Nothing is struck in the first entry, so house 0 is still kept.
        self.claims(((((2, 2, 0), ()), self.entries[1]), 1), False)

    def test_struck_houses(self):
        # House 1 takes its digit in the goal, and house 2 is fixed.
        for struck in ((1,), (0, 1), (2,), (0, 2)) + tuple(bad_groups(3)) + ((0,) * 10000,):
            self.claims((((self.entries[0][0], struck), self.entries[1]), 1), False)
        for struck in ((0,), (1,), (2,), (VAST,)):
            self.claims(((self.entries[0], ((0, 0, 0), struck)), 1), False)

    def test_the_house(self):
        # Houses 0 and 2 are fixed at their digits in the goal.
        for house in (0, 2, 3, -1, -2, -3, VAST, -VAST):
            self.claims((self.entries, house), False)
        # In the room of the last entry house 1 is free.
        self.claims((self.entries[:1], 1), False)
        self.claims((self.entries[:1], 0), False)

    def test_rooms_that_are_not_the_least_ones(self):
        self.claims(((((2, 2, 2), (0,)), ((0, 0, 0), ())), 1), True)
        self.claims(((((2, 2, 2), (0,)), ((0, 0, 2), ())), 1), True)
        self.claims(((((2, 2, 0), (0,)), ((0, 0, 2), ())), 1), True)

    def test_further_entries(self):
        self.claims((self.entries + (self.entries[1],), 1), True)
        self.claims((self.entries + (self.entries[1],) * 50, 1), True)
        self.claims((self.entries[:1] + ((self.entries[1]), ((0, 0, 2), ())), 1), True)
        self.claims(((((2, 2, 0), ()),) + self.entries, 1), True)
        self.claims((self.entries + (((2, 2, 0), ()),), 1), False)

    def test_fewer_struck_houses(self):
        # Both lamps go on for good; it is enough to strike house 0.
        web = Web((("rows", (), (1,)), ("rows", (0,), (0, 1)), ("rows", (), (1,))))
        start, goal = (0, 0, 0), (0, 1, 0)
        self.assertRow(refusal(web, start, goal),
                       ((((2, 2, 2), (0, 2)), ((0, 0, 0), ())), 1))
        claim = ((((2, 2, 2), (0,)), ((0, 0, 2), ())), 1)
        self.assertTruth(is_refusal(web, start, goal, claim), True)
        claim = ((((2, 2, 2), (2,)), ((2, 2, 0), ())), 1)
        self.assertTruth(is_refusal(web, start, goal, claim), False)

    def changed_claims(self, rng, web, claim):
        """The claim with one or two changes, each within the rooms and groups of the web."""
        entries, house = list(claim[0]), claim[1]
        for _ in range(rng.randint(1, 2)):
            place = rng.randrange(len(entries) + 1)
            entry = (rng.choice(all_rooms(web.size)), rng.choice(all_groups(web.size)))
            change = rng.randrange(5)
            if change == 0:
                house = rng.randrange(web.size)
            elif change == 1 or place == len(entries):
                entries.insert(place, entry)
            elif change == 2:
                entries[place] = (entry[0], entries[place][1])
            elif change == 3:
                entries[place] = (entries[place][0], entry[1])
            else:
                del entries[place]
        return tuple(entries), house

    def test_against_the_conditions(self):
        rng = random.Random(15)
        right = wrong = 0
        for web in some_webs(2, 30, seed=14) + some_webs(3, 30, seed=14):
            for start in all_states(web.size)[::2]:
                goal = rng.choice(all_states(web.size))
                if reaches(web, start, goal):
                    claim = ((((2,) * web.size, ()),), 0)
                else:
                    claim = refusal(web, start, goal)
                for _ in range(20):
                    changed = self.changed_claims(rng, web, claim)
                    wanted = is_right(web, start, goal, changed)
                    self.assertTruth(is_refusal(web, start, goal, changed), wanted)
                    if wanted:
                        self.assertFalse(reaches(web, start, goal))
                        right += 1
                    else:
                        wrong += 1
        self.assertGreater(right, 200)
        self.assertGreater(wrong, 200)
