"""Points 76 and 77: rooms behind a room, and pieces of rooms."""

import itertools
import random

from oldnews.behind import closed_behind, minimal_behind
from oldnews.closing import is_closed, loose_houses
from oldnews.errors import BadGroup, BadRoom, TooLarge
from oldnews.minimal import is_minimal
from oldnews.piecewebs import part_of, piece_web
from oldnews.webs import Web
from tests.support import (
    COPIES, OPPOSITES, Case, all_groups, all_rooms, bad_groups, bad_rooms, both_webs, constant_web,
    copying_web, inside, some_webs,
)
from tests.test_closing import loose_by_states
from tests.test_hearers import upstream_groups


def behind_by_rooms(web, room, group):
    """The rooms behind the room, and those with no other one within them, among all rooms."""
    found = [other for other in all_rooms(web.size)
             if loose_by_states(web, other, group) == ()
             and all(other[house] == room[house] for house in range(web.size)
                     if house not in group)]
    return tuple(found), tuple(other for other in found if not any(
        third != other and inside(third, other) for third in found))


class BehindTest(Case):
    def test_examples(self):
        web = Web(COPIES)
        self.assertRow(self.unchanged(closed_behind, web, (0, 1), (0,)), ((1, 1), (2, 1)))
        self.assertRow(self.unchanged(minimal_behind, web, (0, 1), (0,)), ((1, 1),))
        self.assertRow(closed_behind(web, (0, 2), (0,)), ((2, 2),))
        self.assertRow(minimal_behind(web, (0, 1), (0, 1)), ((0, 0), (1, 1)))
        self.assertRow(closed_behind(web, (0, 1), (0, 1)), ((0, 0), (1, 1), (2, 2)))
        self.assertRow(minimal_behind(Web(OPPOSITES), (2, 2), (0, 1)), ((0, 1), (1, 0)))

    def test_the_empty_group(self):
        for room in all_rooms(2):
            self.assertRow(closed_behind(Web(COPIES), room, ()), (room,))
            self.assertRow(minimal_behind(Web(COPIES), list(room), []), (room,))

    def test_against_all_rooms(self):
        many_rooms = 0
        for size, many in ((1, 6), (2, 8), (3, 3)):
            for web in both_webs(size, many, seed=61):
                for group in all_groups(size):
                    for room in all_rooms(size):
                        closed, minimal = behind_by_rooms(web, room, group)
                        self.assertRow(closed_behind(web, room, group), closed)
                        self.assertRow(minimal_behind(web, room, group), minimal)
                        many_rooms += len(minimal) > 1
        self.assertGreater(many_rooms, 50)

    def test_the_marks_of_the_group_do_not_matter(self):
        rng = random.Random(25)
        for web in some_webs(8, 4, seed=62):
            group = tuple(sorted(rng.sample(range(8), 3)))
            room = [rng.randint(0, 2) for _ in range(8)]
            found = closed_behind(web, room, group), minimal_behind(web, room, group)
            for marks in itertools.product((0, 1, 2), repeat=3):
                for house, mark in zip(group, marks):
                    room[house] = mark
                self.assertEqual((closed_behind(web, room, group),
                                  minimal_behind(web, room, group)), found)

    def test_limit(self):
        web = copying_web(12)
        group, room = (1, 3, 5, 7, 9), (2,) * 12
        self.assertEqual(len(closed_behind(web, room, group)), 243)
        self.assertEqual(len(minimal_behind(web, room, group)), 32)
        for call in (closed_behind, minimal_behind):
            self.refused(TooLarge, call, web, room, (0, 1, 3, 5, 7, 9), count=6, limit=5)
            self.refused(TooLarge, call, web, room, tuple(range(12)), count=12, limit=5)
            self.refused(TooLarge, call, constant_web(6), (0,) * 6, tuple(range(6)),
                         count=6, limit=5)

    def test_arguments(self):
        for web in (Web(COPIES), constant_web(12)):
            for call in (closed_behind, minimal_behind):
                self.checked(call, [web, (2,) * web.size, (0, 1)],
                             (1, BadRoom, "row", bad_rooms(web.size)),
                             (2, BadGroup, "row", bad_groups(web.size)))


class UpstreamTest(Case):
    def test_closed_and_minimal_rooms_by_their_parts(self):
        closed_rooms = minimal_rooms = 0
        for web in some_webs(3, 40, seed=63, most=2) + some_webs(2, 20, seed=63):
            houses = tuple(range(web.size))
            for group in upstream_groups(web)[1:]:
                rest = tuple(house for house in houses if house not in group)
                piece = piece_web(web, group)
                for room in all_rooms(web.size):
                    part = part_of(room, group)
                    closed = is_closed(piece, part) and loose_houses(web, room, group=rest) == ()
                    self.assertEqual(is_closed(web, room), closed)
                    minimal = is_minimal(piece, part) and room in minimal_behind(web, room, rest)
                    self.assertEqual(is_minimal(web, room), minimal)
                    if rest:
                        closed_rooms += closed
                        minimal_rooms += minimal
        self.assertGreater(closed_rooms, 100)
        self.assertGreater(minimal_rooms, 50)
