"""Points 94 and 95: ring webs, and what the parities of rings tell about all webs."""

import itertools

from oldnews.allwebs import all_webs, web_count
from oldnews.errors import BadDigit, BadRing
from oldnews.minimal import minimal_inside, minimal_rooms
from oldnews.resting import rests
from oldnews.rings import ring_parities, rings, rings_of
from oldnews.ringwebs import ring_web
from oldnews.signed import keeps_signs
from tests.support import VAST, Case, all_signs, listed, some_signs

COPY, TURN, SILENT = (0, 1), (1, 0), ("rows", (), (0,))


class RowsTest(Case):
    def rows(self, signs, ring, parity):
        found = ring_web(signs, ring, parity).rows()
        self.assertRow(ring_web(listed(signs), list(ring), parity).rows(), found)
        return found

    def test_signs_that_are_not_0(self):
        signs = (((1, 1),), ((0, -1), (1, 1)), ((0, 1),))
        self.assertRow(self.rows(signs, (0, 1), 1),
                       (("rows", (1,), COPY), ("rows", (0,), TURN), SILENT))
        self.assertRow(self.rows(signs, (1,), 0), (SILENT, ("rows", (1,), COPY), SILENT))
        signs = (((1, -1),), ((0, -1),))
        self.assertRow(self.rows(signs, (0, 1), 0), (("rows", (1,), TURN), ("rows", (0,), TURN)))
        self.assertRow(self.rows((((0, -1),),), (0,), 1), (("rows", (0,), TURN),))

    def test_signs_0(self):
        self.assertRow(self.rows((((0, 0),),), (0,), 0), (("rows", (0,), COPY),))
        self.assertRow(self.rows((((0, 0),),), (0,), 1), (("rows", (0,), TURN),))
        # The first sign that was 0, in the order of the ring, becomes -1 if one has to.
        signs = (((2, 1),), ((0, 0),), ((1, 0),))
        self.assertRow(self.rows(signs, (0, 1, 2), 0), (
            ("rows", (2,), COPY), ("rows", (0,), COPY), ("rows", (1,), COPY)))
        self.assertRow(self.rows(signs, (0, 1, 2), 1), (
            ("rows", (2,), COPY), ("rows", (0,), TURN), ("rows", (1,), COPY)))
        signs = (((2, 0),), ((0, 0),), ((1, -1),))
        self.assertRow(self.rows(signs, (0, 1, 2), 0), (
            ("rows", (2,), TURN), ("rows", (0,), COPY), ("rows", (1,), TURN)))
        self.assertRow(self.rows(signs, (0, 1, 2), 1), (
            ("rows", (2,), COPY), ("rows", (0,), COPY), ("rows", (1,), TURN)))
        # In the order of the ring house 2 comes before house 1.
        signs = (((1, 1),), ((2, 0),), ((0, 0),))
        self.assertRow(self.rows(signs, (0, 2, 1), 1), (
            ("rows", (1,), COPY), ("rows", (2,), COPY), ("rows", (0,), TURN)))

    def test_minimal_rooms_of_small_ring_webs(self):
        for signs in all_signs(1) + all_signs(2)[::2] + some_signs(4, 20, seed=110):
            for ring in rings(signs):
                can = ring_parities(signs, ring)
                for parity in (0, 1):
                    if can[parity]:
                        web = ring_web(signs, ring, parity)
                        self.assertTruth(keeps_signs(web, signs), True)
                        self.check_minimal_rooms(minimal_rooms(web), ring, parity)
                    else:
                        self.refused(BadRing, ring_web, signs, ring, parity, row=ring)

    def check_minimal_rooms(self, found, ring, parity):
        if parity == 1:
            self.assertEqual(found, (tuple(2 if house in ring else 0
                                           for house in range(len(found[0]))),))
        else:
            self.assertEqual(len(found), 2)
            self.assertTrue(all(2 not in room for room in found))

    def test_no_limit(self):
        for size in (7, 12):
            signs = tuple((((house - 1) % size, 0),) for house in range(size))
            ring = tuple(range(size))
            web = ring_web(signs, ring, 0)
            self.assertRow(web.rows(), tuple(("rows", ((house - 1) % size,), COPY)
                                             for house in range(size)))
            web = ring_web(signs, ring, 1)
            self.assertRow(web.rows()[0], ("rows", (size - 1,), TURN))
            self.assertRow(web.rows()[1], ("rows", (0,), COPY))
            self.assertRow(minimal_inside(web, (0,) * size), ())


class ErrorsTest(Case):
    def test_a_ring_that_cannot_have_the_parity(self):
        signs = (((1, 1),), ((0, -1), (1, 1)))
        self.refused(BadRing, ring_web, signs, (0, 1), 0, row=(0, 1))
        self.refused(BadRing, ring_web, signs, [1], 1, row=(1,))
        # A digit that is none comes before it, and behind a row that is no ring.
        for parity in (2, -1, VAST, -VAST):
            self.refused(BadDigit, ring_web, signs, (0, 1), parity, digit=parity)
            self.refused(BadDigit, ring_web, signs, [1], parity, digit=parity)
            self.refused(BadRing, ring_web, signs, (1, 0), parity, row=(1, 0))

    def test_arguments(self):
        for signs in ((((0, 0),), ()), (((0, 0),),) + ((),) * 11):
            self.checked_signs(ring_web, [signs, (0,), 0],
                               (1, BadRing, "row", [(), (1,), (0, 0), (-1,), (VAST,), (0, 1)]),
                               (2, BadDigit, "digit", [2, -1, VAST]))


class AllWebsTest(Case):
    def test_point_95(self):
        found = set()
        for signs in all_signs(1) + all_signs(2)[::3] + some_signs(3, 60, seed=111, most=2):
            if web_count(signs) > 256:
                continue
            webs = list(all_webs(signs))
            ends = [minimal_rooms(web) for web in webs]
            resting = [rests(web) for web in webs]
            even, odd = len(rings_of(signs, 0)) > 0, len(rings_of(signs, 1)) > 0
            found.add((even, odd))
            if even:
                self.assertTrue(any(len(states) > 1 for states in resting))
            else:
                self.assertTrue(all(len(rooms) == 1 for rooms in ends))
                self.assertTrue(all(len(states) <= 1 for states in resting))
            if odd:
                self.assertTrue(any(len(states) == 0 for states in resting))
            else:
                self.assertFalse(any(2 in room for room in itertools.chain(*ends)))
        self.assertEqual(len(found), 4)
