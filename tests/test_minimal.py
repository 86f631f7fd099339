"""Points 27 and 28: minimal rooms."""

from oldnews.errors import BadRoom, TooLarge
from oldnews.leasts import least_room
from oldnews.minimal import is_minimal, minimal_inside, minimal_rooms
from oldnews.webs import Web
from tests.support import (
    COPIES, OPPOSITES, VAST, Case, all_rooms, constant_web, copying_web, inside, some_webs,
    states_in_room,
)
from tests.test_closing import loose_by_states


def minimal_by_rooms(web):
    """The closed rooms with no other closed room within them, in ascending order."""
    houses = tuple(range(web.size))
    closed = [room for room in all_rooms(web.size) if loose_by_states(web, room, houses) == ()]
    return tuple(room for room in closed
                 if not any(other != room and inside(other, room) for other in closed))


class MinimalTest(Case):
    def test_example(self):
        self.assertRow(minimal_rooms(Web(COPIES)), ((0, 0), (1, 1)))
        self.assertRow(minimal_rooms(Web(OPPOSITES)), ((0, 1), (1, 0)))
        self.assertTruth(is_minimal(Web(COPIES), (2, 2)), False)

    def test_a_minimal_room_with_free_houses(self):
        # House 0 copies house 1, and house 1 does the opposite of house 0.
        web = Web((("rows", (1,), (0, 1)), ("rows", (0,), (1, 0)), ("rows", (2,), (0, 1))))
        self.assertRow(minimal_rooms(web), ((2, 2, 0), (2, 2, 1)))
        self.assertTruth(is_minimal(web, (2, 2, 1)), True)
        self.assertTruth(is_minimal(web, (2, 2, 2)), False)
        self.assertTruth(is_minimal(web, (0, 0, 1)), False)

    def test_against_all_rooms(self):
        with_free = 0
        for size, many in ((1, 8), (2, 20), (3, 12), (4, 2)):
            for web in some_webs(size, many):
                wanted = minimal_by_rooms(web)
                with_free += sum(2 in room for room in wanted)
                self.assertRow(minimal_rooms(web), wanted)
                for room in all_rooms(size)[::1 if size < 4 else 7]:
                    self.assertTruth(is_minimal(web, room), room in wanted)
                    self.assertRow(self.unchanged(minimal_inside, web, room),
                                   tuple(other for other in wanted if inside(other, room)))
        self.assertGreater(with_free, 5)

    def test_the_least_room_about_each_of_its_states(self):
        for web in some_webs(3, 10):
            for room in all_rooms(3):
                leasts = {least_room(web, state) for state in states_in_room(room)}
                self.assertEqual(is_minimal(web, room), leasts == {room})

    def test_none_within_a_room(self):
        self.assertRow(minimal_inside(Web(COPIES), (0, 1)), ())
        self.assertRow(minimal_inside(constant_web(3), (2, 1, 2)), ())


class LimitTest(Case):
    def test_houses(self):
        self.assertEqual(len(minimal_rooms(copying_web(6))), 64)
        self.refused(TooLarge, minimal_rooms, copying_web(7), count=7, limit=6)
        self.refused(TooLarge, minimal_rooms, constant_web(12), count=12, limit=6)

    def test_free_houses(self):
        web = copying_web(12)
        room = (2,) * 6 + (0, 1) * 3
        found = minimal_inside(web, room)
        self.assertRow(found, tuple(states_in_room(room)))
        self.assertTruth(is_minimal(web, room), False)
        self.assertTruth(is_minimal(web, found[0]), True)
        for call in (minimal_inside, is_minimal):
            self.refused(TooLarge, call, web, (2,) * 7 + (0,) * 5, count=7, limit=6)
            self.refused(TooLarge, call, constant_web(7), (2,) * 7, count=7, limit=6)

    def test_large_webs(self):
        # Houses 0 and 1 turn about each other, and each other one copies house 2.
        rows = [("rows", (1,), (0, 1)), ("rows", (0,), (1, 0))] + [("rows", (2,), (0, 1))] * 8
        web = Web(rows)
        self.assertRow(minimal_inside(web, (2, 2, 1, 1, 1, 1) + (1,) * 4), ((2, 2) + (1,) * 8,))
        self.assertRow(minimal_inside(web, (2,) * 6 + (0,) * 4), ((2, 2) + (0,) * 8,))
        self.assertRow(minimal_inside(web, (2, 2, 2, 2) + (0, 1) * 3), ())
        # The room has a free house too few for the minimal room.
        self.assertRow(minimal_inside(web, (0, 2, 2) + (1,) * 7), ())
        self.assertTruth(is_minimal(web, (2, 2) + (1,) * 8), True)
        self.assertTruth(is_minimal(web, (2, 2, 2) + (1,) * 7), False)


class ArgumentsTest(Case):
    def test_rooms(self):
        for call in (minimal_inside, is_minimal):
            for room in ((), (0,), (0, 1, 2), (0, 3), (-1, 0), (VAST, 0), (2,) * 7):
                self.refused(BadRoom, call, Web(COPIES), list(room), row=room)
            self.refused(BadRoom, call, copying_web(8), (2,) * 7 + (5,), row=(2,) * 7 + (5,))
