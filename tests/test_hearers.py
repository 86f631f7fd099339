"""Points 71 and 72: who hears whom, upstream groups and pieces."""

import itertools

from oldnews.errors import BadGroup, BadHouse
from oldnews.hearers import heard_by, is_upstream, pieces
from oldnews.webs import Web
from tests.support import COPIES, VAST, Case, all_groups, bad_groups, copying_web, some_webs

# The example of point 72.
EXAMPLE = (("rows", (2,), (0, 1)), ("terms", ((1, 1),), ((1,),)), ("rows", (0, 1), (0, 0, 0, 1)))


def heard_houses(web):
    """For each house, the set of the houses that its table row names."""
    return [{item if row[0] == "rows" else item[0] for item in row[1]} for row in web.rows()]


def upstream_groups(web):
    heard = heard_houses(web)
    return [group for group in all_groups(web.size)
            if all(heard[house] <= set(group) for house in group)]


def pieces_by_groups(web):
    """The pieces, found as rows of houses that are in the same upstream groups."""
    groups = upstream_groups(web)
    signs = [tuple(house in group for group in groups) for house in range(web.size)]
    waiting = sorted({tuple(house for house in range(web.size) if signs[house] == sign)
                      for sign in signs})
    listed = []
    while waiting:
        done = {house for piece in listed for house in piece}
        heard = heard_houses(web)
        for piece in waiting:
            if all(heard[house] <= done | set(piece) for house in piece):
                listed.append(piece)
                waiting.remove(piece)
                break
    return tuple(listed)


class HearersTest(Case):
    def test_example(self):
        web = Web(EXAMPLE)
        self.assertRow(heard_by(web, 0), (2,))
        self.assertRow(heard_by(web, 1), (1, 2))
        self.assertRow(heard_by(web, 2), (0,))
        self.assertRow(pieces(web), ((1,), (0, 2)))
        self.assertEqual([group for group in all_groups(3) if is_upstream(web, group)],
                         [(), (0, 1, 2), (1,)])

    def test_houses_that_are_heard_but_not_used(self):
        web = Web((("rows", (1,), (1, 1)), ("terms", ((0, -1),), ()), ("terms", ((0, 1),), ((),))))
        self.assertRow(heard_by(web, 0), (1, 2))
        self.assertRow(heard_by(web, 1), (0,))
        self.assertRow(heard_by(web, 2), ())
        self.assertRow(pieces(web), ((0, 1), (2,)))
        self.assertTruth(is_upstream(web, (1,)), False)
        self.assertTruth(is_upstream(web, (0, 1)), True)

    def test_a_house_that_hears_itself(self):
        web = copying_web(3)
        for house in range(3):
            self.assertRow(heard_by(web, house), (house,))
        self.assertRow(pieces(web), ((0,), (1,), (2,)))
        for group in all_groups(3):
            self.assertTruth(is_upstream(web, group), True)

    def test_small_webs(self):
        for size in (1, 2, 3, 5):
            for web in some_webs(size, 15, seed=53, most=2):
                heard = heard_houses(web)
                for house in range(size):
                    wanted = tuple(other for other in range(size) if house in heard[other])
                    self.assertRow(heard_by(web, house), wanted)
                groups = upstream_groups(web)
                self.assertIn((), groups)
                self.assertIn(tuple(range(size)), groups)
                for group in all_groups(size):
                    found = self.unchanged(is_upstream, web, group)
                    self.assertTruth(found, group in groups)

    def test_arguments(self):
        for web in (Web(COPIES), copying_web(12)):
            self.checked(heard_by, [web, 1], (1, BadHouse, "house", [-1, web.size, VAST, -VAST]))
            self.checked(is_upstream, [web, (0, 1)],
                         (1, BadGroup, "row", bad_groups(web.size)))


class PiecesTest(Case):
    def test_the_order_of_the_pieces(self):
        # Each house hears the next one, so that the last piece comes first.
        web = Web([("rows", (min(house + 1, 4),), (0, 1)) for house in range(5)])
        self.assertRow(pieces(web), ((4,), (3,), (2,), (1,), (0,)))
        # House 0 comes as soon as house 2 is listed, and house 1 as soon as house 3 is.
        web = Web((("rows", (2,), (0, 1)), ("rows", (1, 3), (0, 1, 1, 0)), ("rows", (), (1,)),
                   ("rows", (4,), (0, 1)), ("terms", ((2, 1), (3, -1)), ((2,), (3,)))))
        self.assertRow(pieces(web), ((2,), (0,), (3, 4), (1,)))

    def test_long_chains(self):
        # All houses of a ring are one piece; a further house hears one of them.
        web = Web([("rows", ((house + 1) % 11,), (0, 1)) for house in range(11)]
                  + [("rows", (4,), (0, 1))])
        self.assertRow(pieces(web), (tuple(range(11)), (11,)))
        web = Web([("rows", (11,), (0, 1))] + [("rows", (house, (house % 11) + 1), (0, 1, 1, 0))
                                               if house < 11 else ("rows", (1, 11), (0, 1, 1, 0))
                                               for house in range(1, 12)])
        self.assertRow(pieces(web), (tuple(range(1, 12)), (0,)))

    def test_against_groups(self):
        counts = set()
        for size, many in ((1, 4), (2, 15), (3, 20), (4, 30), (6, 15), (8, 6)):
            for web in some_webs(size, many, seed=54, most=2):
                found = pieces(web)
                self.assertRow(found, pieces_by_groups(web))
                self.assertEqual(sorted(itertools.chain(*found)), list(range(size)))
                counts.add(tuple(len(piece) for piece in found))
        self.assertIn((1, 2, 1), counts)
        self.assertIn((1, 1, 2), counts)
        self.assertIn((2, 1), counts)
