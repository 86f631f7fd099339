"""Point 40: the states to which runs lead if their ages are bounded."""

import itertools

from oldnews.agesearch import fewest_beats, reached_by_age, youngest_age
from oldnews.errors import BadAge, BadState, TooLarge
from oldnews.newsearch import reached_by_news
from oldnews.webs import Web
from tests.support import (
    COPIES, OPPOSITES, VAST, Case, all_states, bad_states, constant_web, digit_at, some_webs,
)


def digits_by_looks(row, states, house, age):
    """The digits that the lamp of the house can have after a beat, look by look."""
    heard = [item if row[0] == "rows" else item[0] for item in row[1]]
    digits = {states[-1][house]}
    for ages in itertools.product(range(min(age + 1, len(states))), repeat=len(heard)):
        read = [0] * len(states[0])
        for other, past in zip(heard, ages):
            read[other] = states[-1 - past][other]
        digits.add(digit_at(row, read))
    return sorted(digits)


def beats_by_looks(rows, start, age):
    """The least number of beats to each state, found beat by beat with the newest states."""
    found, waiting, counts, beats = {(start,)}, [(start,)], {}, 0
    while waiting:
        further = []
        for states in waiting:
            counts.setdefault(states[-1], beats)
            choices = [digits_by_looks(row, states, house, age) for house, row in enumerate(rows)]
            for after in itertools.product(*choices):
                node = (states + (after,))[-(age + 1):]
                if node not in found:
                    found.add(node)
                    further.append(node)
        waiting, beats = further, beats + 1
    return counts


class AgeSearchTest(Case):
    def test_examples(self):
        web = Web(OPPOSITES)
        # Both houses look at once: nobody reads old news.
        self.assertRow(self.unchanged(reached_by_age, web, (0, 0), 0),
                       ((0, 0), (0, 1), (1, 0), (1, 1)))
        self.assertRow(self.unchanged(fewest_beats, web, (0, 0), (1, 1), 0), 1)
        self.assertRow(self.unchanged(youngest_age, web, (0, 0), (1, 1)), 0)
        self.assertRow(reached_by_age(web, (0, 1), 3), ((0, 1),))
        self.assertRow(fewest_beats(web, (0, 1), (0, 1), 0), 0)
        self.assertRow(fewest_beats(web, (0, 1), (1, 0), 3), None)
        self.assertRow(youngest_age(web, (0, 1), (1, 1)), None)
        self.assertRow(youngest_age(web, (0, 1), (0, 1)), 0)

    def test_an_age_that_is_needed(self):
        # Lamp 0 goes on for good, and house 1 copies it.
        web = Web((("rows", (), (1,)), ("rows", (0,), (0, 1))))
        self.assertRow(reached_by_age(web, (0, 1), 0), ((0, 0), (0, 1), (1, 0), (1, 1)))
        self.assertRow(fewest_beats(web, (0, 1), (1, 0), 0), 1)
        # House 1 has to see lamp 0 on, and then off again.
        self.assertRow(reached_by_age(web, (0, 0), 3), ((0, 0), (1, 0), (1, 1)))
        self.assertRow(fewest_beats(web, (0, 0), (1, 1), 0), 2)
        # House 1 turns on when lamp 0 is on; house 2 then still has to see it off.
        web = Web((("rows", (), (1,)), ("rows", (0,), (0, 1)), ("rows", (0, 1), (0, 1, 0, 0))))
        self.assertRow(youngest_age(web, (0, 0, 0), (1, 1, 1)), 2)
        self.assertRow(fewest_beats(web, (0, 0, 0), (1, 1, 1), 2), 3)
        self.assertRow(fewest_beats(web, (0, 0, 0), (1, 1, 1), 3), 3)
        self.assertRow(fewest_beats(web, (0, 0, 0), (1, 1, 1), 1), None)
        self.assertNotIn((1, 1, 1), reached_by_age(web, (0, 0, 0), 1))
        self.assertIn((1, 1, 1), reached_by_age(web, (0, 0, 0), 2))

    def test_each_youngest_age(self):
        examples = (
            ((("rows", (1,), (1, 0)), ("rows", (0,), (1, 0))), (0, 0), (1, 1), 0),
            ((("rows", (0, 1), (0, 0, 0, 1)), ("rows", (0, 1), (0, 1, 0, 0))), (1, 1), (0, 1), 2),
            ((("terms", ((1, 1), (2, -1)), ((1, 2),)), ("terms", (), ((),)),
              ("rows", (1,), (1, 0))), (0, 0, 0), (1, 1, 1), 1),
            ((("terms", ((2, 1),), ((2,),)), ("rows", (0,), (0, 1)),
              ("rows", (1, 2), (1, 1, 0, 1))), (0, 0, 0), (0, 1, 0), 3))
        for rows, start, goal, age in examples:
            web = Web(rows)
            self.assertRow(youngest_age(web, start, goal), age)
            for other in range(4):
                counts = self.check(web, start, other)
                self.assertEqual(goal in counts, other >= age)

    def check(self, web, start, age):
        counts = beats_by_looks(web.rows(), start, age)
        self.assertRow(reached_by_age(web, start, age), tuple(sorted(counts)))
        for goal in all_states(web.size):
            self.assertRow(fewest_beats(web, start, goal, age), counts.get(goal))
        return counts

    def test_against_a_search_through_runs(self):
        ages = set()
        for size, many in ((1, 6), (2, 12)):
            for web in some_webs(size, many):
                for start in all_states(size):
                    by_age = [self.check(web, start, age) for age in range(4)]
                    for goal in all_states(size):
                        wanted = [age for age in range(4) if goal in by_age[age]]
                        found = youngest_age(web, start, goal)
                        self.assertRow(found, min(wanted, default=None))
                        ages.add(found)
        self.assertLessEqual({None, 0}, ages)

    def test_three_houses(self):
        for web in some_webs(3, 4, most=2):
            for start in all_states(3)[::3]:
                by_age = [self.check(web, start, age) for age in range(3)]
                for goal in all_states(3):
                    wanted = [age for age in range(3) if goal in by_age[age]]
                    self.assertRow(youngest_age(web, start, goal), min(wanted, default=None))
        self.check(some_webs(3, 1, most=2)[0], (0, 1, 0), 3)

    def test_no_further_states_above_the_number_of_houses(self):
        for size, many in ((1, 6), (2, 20), (3, 10)):
            for web in some_webs(size, many, seed=4):
                for start in all_states(size)[::2]:
                    wanted = reached_by_news(web, start)
                    for age in range(size, 4):
                        self.assertRow(reached_by_age(web, start, age), wanted)
                    for goal in all_states(size):
                        self.assertEqual(youngest_age(web, start, goal) is None,
                                         goal not in wanted)


class LimitTest(Case):
    def test_limits(self):
        web = constant_web(3, 1)
        self.assertRow(reached_by_age(web, (0,) * 3, 3), tuple(all_states(3)))
        self.assertRow(fewest_beats(web, (0,) * 3, (1,) * 3, 3), 1)
        self.assertRow(youngest_age(web, (0,) * 3, (1,) * 3), 0)
        for size in (4, 12):
            web, state = constant_web(size), (0,) * size
            # The limit of the age comes after that of the houses.
            for age in (0, 3, 4, VAST):
                self.refused(TooLarge, reached_by_age, web, state, age, count=size, limit=3)
                self.refused(TooLarge, fewest_beats, web, state, state, age, count=size, limit=3)
            self.refused(TooLarge, youngest_age, web, state, state, count=size, limit=3)
        for age in (4, 5, VAST):
            for size in (1, 2, 3):
                web, state = constant_web(size), (0,) * size
                self.refused(TooLarge, reached_by_age, web, state, age, count=age, limit=3)
                self.refused(TooLarge, fewest_beats, web, state, state, age, count=age, limit=3)

    def test_arguments(self):
        for size, state in ((2, (0, 1)), (4, (0,) * 4)):
            web = Web(COPIES) if size == 2 else constant_web(4)
            start = (1, BadState, "row", bad_states(size))
            goal = (2, BadState, "row", bad_states(size))
            ages = (BadAge, "age", [-1, -VAST])
            self.checked(reached_by_age, [web, state, 0], start, (2,) + ages)
            self.checked(fewest_beats, [web, state, state, 0], start, goal, (3,) + ages)
            self.checked(youngest_age, [web, state, state], start, goal)
