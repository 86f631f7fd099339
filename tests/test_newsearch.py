"""Point 40: the states to which runs by old news lead."""

import itertools
import random

from oldnews.errors import BadState, TooLarge
from oldnews.newsearch import reached_by_news
from oldnews.runs import run_states
from oldnews.webs import Web
from tests.support import COPIES, OPPOSITES, VAST, Case, all_states, constant_web, some_webs
from tests.test_runs import some_run


def looks_of(web, states, house):
    """One look of the house for each digit to which its lamp can be set."""
    looks = {}
    for ages in itertools.product(range(len(states)), repeat=len(web.hears(house))):
        read = [0] * web.size
        for other, age in zip(web.hears(house), ages):
            read[other] = states[len(states) - 1 - age][other]
        looks.setdefault(web.value(house, read), (house, ages))
    return list(looks.values())


def runs_from(web, start):
    """A run to each state that is reached, found beat by beat with looks of many houses."""
    runs = {start: ()}
    found = {(start, frozenset([start]))}
    waiting = [((start,), ())]
    while waiting:
        states, run = waiting.pop()
        choices = [[None] + looks_of(web, states, house) for house in range(web.size)]
        for beat in itertools.product(*choices):
            longer = run + (tuple(look for look in beat if look is not None),)
            after = run_states(web, start, longer)
            node = (after[-1], frozenset(after))
            if node not in found:
                found.add(node)
                runs.setdefault(after[-1], longer)
                waiting.append((after, longer))
    return runs


class ReachedTest(Case):
    def test_examples(self):
        self.assertRow(reached_by_news(Web(OPPOSITES), (0, 0)), ((0, 0), (0, 1), (1, 0), (1, 1)))
        self.assertRow(reached_by_news(Web(OPPOSITES), (0, 1)), ((0, 1),))
        self.assertRow(reached_by_news(Web(COPIES), [0, 1]), ((0, 0), (0, 1), (1, 0), (1, 1)))
        web = Web((("rows", (), (1,)), ("rows", (0,), (0, 1))))
        self.assertRow(reached_by_news(web, (0, 0)), ((0, 0), (1, 0), (1, 1)))
        self.assertRow(reached_by_news(web, (0, 1)), ((0, 0), (0, 1), (1, 0), (1, 1)))

    def test_against_a_search_through_runs(self):
        for size, many in ((1, 6), (2, 16), (3, 3)):
            for web in some_webs(size, many):
                for start in all_states(size):
                    runs = runs_from(web, start)
                    found = self.unchanged(reached_by_news, web, start)
                    self.assertRow(found, tuple(sorted(runs)))
                    for goal, run in runs.items():
                        self.assertEqual(run_states(web, start, run)[-1], goal)

    def test_runs_of_four_houses(self):
        rng = random.Random(9)
        for web in some_webs(4, 10):
            start = rng.choice(all_states(4))
            found = reached_by_news(web, start)
            self.assertEqual(found, tuple(sorted(set(found))))
            for _ in range(30):
                self.assertIn(run_states(web, start, some_run(rng, web, 12))[-1], found)

    def test_limit(self):
        self.assertRow(reached_by_news(constant_web(4, 1), (0,) * 4), tuple(all_states(4)))
        for size in (5, 12):
            self.refused(TooLarge, reached_by_news, constant_web(size), (0,) * size,
                         count=size, limit=4)

    def test_arguments(self):
        for start in ((), (0,), (0, 0, 0), (0, 2), (-1, 0), (VAST, 0)):
            self.refused(BadState, reached_by_news, Web(OPPOSITES), list(start), row=start)
        self.refused(BadState, reached_by_news, constant_web(5), (0,) * 4, row=(0,) * 4)
