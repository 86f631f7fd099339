"""Points 61 and 62: closed lots and slow lots."""

import random

from oldnews.endings import end_states
from oldnews.endsearch import closed_lots, slow_lots
from oldnews.errors import TooLarge
from oldnews.newsearch import reached_by_news
from oldnews.resting import rests
from oldnews.webs import Web
from tests.support import (
    COPIES, OPPOSITES, Case, all_states, constant_web, copying_web, image_of, some_webs,
)
from tests.test_finesearch import lots_by_reach


def reached_by_steps(rows, state):
    """The states to which slow steps lead, one after another."""
    found, waiting = {state}, [state]
    while waiting:
        newest = waiting.pop()
        image = image_of(rows, newest)
        for house in range(len(rows)):
            after = newest[:house] + (image[house],) + newest[house + 1:]
            if after not in found:
                found.add(after)
                waiting.append(after)
    return tuple(sorted(found))


class ClosedLotsTest(Case):
    def test_examples(self):
        self.assertRow(closed_lots(Web(OPPOSITES)), (((0, 1),), ((1, 0),)))
        self.assertRow(closed_lots(Web(COPIES)), (((0, 0),), ((1, 1),)))
        self.assertRow(closed_lots(Web((("rows", (0,), (1, 0)),))), (((0,), (1,)),))

    def test_against_what_states_reach(self):
        for size, many in ((1, 8), (2, 20), (3, 8), (4, 3)):
            for web in some_webs(size, many, seed=38):
                found = closed_lots(web)
                self.assertRow(found,
                               lots_by_reach(size, lambda state: reached_by_news(web, state)))
                # The ends are ordered as rooms, and the lots as rows of states.
                self.assertEqual(found, tuple(sorted(end_states(web))))

    def test_the_order_of_the_lots(self):
        web = Web((("rows", (0, 1), (1, 0, 0, 1)), ("rows", (1,), (0, 1))))
        self.assertEqual(end_states(web), (((0, 1),), ((1, 1),), ((0, 0), (1, 0))))
        self.assertRow(closed_lots(web), (((0, 0), (1, 0)), ((0, 1),), ((1, 1),)))

    def test_limit(self):
        self.assertRow(closed_lots(constant_web(4)), (((0,) * 4,),))
        self.assertRow(closed_lots(copying_web(4)), tuple((state,) for state in all_states(4)))
        for size in (5, 12):
            self.refused(TooLarge, closed_lots, constant_web(size), count=size, limit=4)


class SlowLotsTest(Case):
    def test_examples(self):
        self.assertRow(slow_lots(Web(OPPOSITES)), (((0, 1),), ((1, 0),)))
        self.assertRow(slow_lots(Web((("rows", (0,), (1, 0)),))), (((0,), (1,)),))

    def test_states_that_no_end_has(self):
        # By old news (0, 1) is reached from everywhere, but not by slow steps.
        web = Web((("rows", (0, 1), (1, 0, 0, 1)), ("rows", (0, 1), (0, 1, 1, 0))))
        self.assertRow(end_states(web), (((0, 1),),))
        self.assertRow(closed_lots(web), (((0, 1),),))
        self.assertRow(slow_lots(web), (((0, 0), (1, 0), (1, 1)), ((0, 1),)))

    def test_against_steps(self):
        for size, many in ((1, 8), (2, 20), (3, 12), (4, 6), (5, 3)):
            for web in some_webs(size, many, seed=40):
                rows = web.rows()
                lots = slow_lots(web)
                self.assertRow(lots,
                               lots_by_reach(size, lambda state: reached_by_steps(rows, state)))
                for ended in end_states(web):
                    self.assertTrue(any(set(lot) <= set(ended) for lot in lots))
                for rest in rests(web):
                    self.assertIn((rest,), lots)

    def test_limit(self):
        self.assertRow(slow_lots(constant_web(5)), (((0,) * 5,),))
        self.assertRow(slow_lots(copying_web(5)), tuple((state,) for state in all_states(5)))
        for size in (6, 12):
            self.refused(TooLarge, slow_lots, constant_web(size), count=size, limit=5)


class SlowStepTest(Case):
    def test_one_house_at_a_time(self):
        # All houses at once would lead from (0, 0) to (1, 1) and back.
        web = Web((("rows", (0, 1), (1, 0, 0, 0)), ("rows", (0, 1), (1, 0, 0, 0))))
        self.assertRow(slow_lots(web), (((0, 0), (0, 1), (1, 0)),))
        rng = random.Random(22)
        for web in some_webs(5, 4, seed=41):
            state = rng.choice(all_states(5))
            self.assertTrue(any(set(lot) <= set(reached_by_steps(web.rows(), state))
                                for lot in slow_lots(web)))
