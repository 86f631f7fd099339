"""The search that the functions about what can follow share: every item, in the fewest steps."""

import random

from oldnews.agesearch import fewest_beats, reached_by_age
from oldnews.endsearch import closed_lots, slow_lots
from oldnews.finesearch import fine_lots, fine_reached, fine_reached_singly
from oldnews.hearers import pieces
from oldnews.newsearch import reached_by_news
from oldnews.searching import steps_from
from oldnews.webs import Web
from tests.support import Case


def counts_by_rounds(first, rows):
    """The least numbers of steps, found by going from all found items again and again."""
    counts = {first: 0}
    for step in range(1, len(rows) + 1):
        for item in [item for item in counts if counts[item] == step - 1]:
            for after in rows[item]:
                counts.setdefault(after, step)
    return counts


class StepsTest(Case):
    def test_nothing_follows(self):
        self.assertEqual(steps_from("a", lambda item: ()), {"a": 0})
        self.assertEqual(steps_from("a", lambda item: (item, item)), {"a": 0})

    def test_the_shortest_way_counts(self):
        rows = {0: (1, 2), 1: (3,), 2: (4,), 3: (4, 5), 4: (0,), 5: (), 6: (0,)}
        self.assertEqual(steps_from(0, lambda item: rows[item]),
                         {0: 0, 1: 1, 2: 1, 3: 2, 4: 2, 5: 3})
        self.assertEqual(steps_from(3, lambda item: rows[item]),
                         {3: 0, 4: 1, 5: 1, 0: 2, 1: 3, 2: 3})

    def test_a_long_chain(self):
        found = steps_from(0, lambda item: (min(item + 1, 5000), max(item - 1, 0)))
        # Compared in two parts, since the difference of long dicts takes long to write out.
        self.assertEqual(len(found), 5001)
        self.assertTrue(all(found[item] == item for item in range(5001)))

    def test_against_rounds(self):
        chance = random.Random(14)
        for many in (1, 2, 5, 9, 14):
            for _ in range(30):
                rows = [[chance.randrange(many) for _ in range(chance.randrange(4))]
                        for _ in range(many)]
                kept = [list(row) for row in rows]
                for first in range(many):
                    found = steps_from(first, lambda item: rows[item])
                    # The order counts too: fewest_beats takes the first window of each state.
                    self.assertEqual(list(found.items()),
                                     list(counts_by_rounds(first, rows).items()))
                self.assertEqual(rows, kept)

    def test_each_item_is_asked_once(self):
        asked = []

        def following(item):
            asked.append(item)
            return [(item + step) % 7 for step in (1, 2, 3)]

        self.assertEqual(steps_from(0, following), {0: 0, 1: 1, 2: 1, 3: 1, 4: 2, 5: 2, 6: 2})
        self.assertEqual(sorted(asked), list(range(7)))


class UsersTest(Case):
    """Ways of several steps, for each function that rests on the search."""

    def setUp(self):
        # House 0 turns on while lamp 1 is off, and house 1 follows house 0: a round of four steps.
        self.web = Web((("rows", (1,), (1, 0)), ("rows", (0,), (0, 1))))
        self.everything = ((0, 0), (0, 1), (1, 0), (1, 1))

    def test_what_states_reach(self):
        self.assertRow(reached_by_news(self.web, (0, 0)), self.everything)
        for age in range(3):
            self.assertRow(reached_by_age(self.web, (0, 0), age), self.everything)
            self.assertEqual([fewest_beats(self.web, (0, 0), goal, age)
                              for goal in self.everything], [0, 3, 1, 2])
        for top in (1, 2, 3):
            self.assertRow(fine_reached(self.web, top, (0, 0)), self.everything)
            self.assertRow(fine_reached_singly(self.web, top, (0, 0)), self.everything)

    def test_lots(self):
        for lots in (closed_lots(self.web), slow_lots(self.web), fine_lots(self.web, 2)):
            self.assertRow(lots, (self.everything,))

    def test_pieces(self):
        # Each house of the first four hears the next one, and house 3 hears house 0.
        web = Web([("rows", ((house + 1) % 4,), (0, 1)) for house in range(4)]
                  + [("rows", (3,), (1, 0)), ("rows", (), (1,))])
        self.assertRow(pieces(web), ((0, 1, 2, 3), (4,), (5,)))
