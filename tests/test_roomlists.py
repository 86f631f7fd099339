"""Point 29: lists of closed rooms."""

import inspect

from oldnews.errors import BadRoom, TooLarge
from oldnews.roomlists import closed_about, closed_inside, closed_rooms, room_counts
from oldnews.webs import Web
from tests.support import COPIES, VAST, Case, all_rooms, constant_web, copying_web, inside, some_webs
from tests.test_closing import loose_by_states


class ListsTest(Case):
    def test_example(self):
        web = Web(COPIES)
        self.assertRow(tuple(closed_rooms(web)), ((0, 0), (1, 1), (2, 2)))
        self.assertRow(closed_about(web, (0, 1)), ((2, 2),))
        self.assertRow(closed_about(web, (0, 0)), ((0, 0), (2, 2)))
        self.assertRow(closed_inside(web, (2, 2)), ((0, 0), (1, 1), (2, 2)))
        self.assertRow(closed_inside(web, (1, 2)), ((1, 1),))
        self.assertRow(closed_inside(web, (0, 1)), ())
        self.assertRow(room_counts(web), (2, 0, 1))

    def test_against_all_rooms(self):
        for size, many in ((1, 6), (2, 12), (3, 6), (4, 1)):
            for web in some_webs(size, many):
                houses = tuple(range(size))
                closed = [room for room in all_rooms(size)
                          if loose_by_states(web, room, houses) == ()]
                self.assertRow(tuple(closed_rooms(web)), tuple(closed))
                counts = [0] * (size + 1)
                for room in closed:
                    counts[room.count(2)] += 1
                self.assertRow(room_counts(web), tuple(counts))
                for room in all_rooms(size)[::1 if size < 4 else 5]:
                    self.assertRow(self.unchanged(closed_about, web, room),
                                   tuple(other for other in closed if inside(room, other)))
                    self.assertRow(self.unchanged(closed_inside, web, room),
                                   tuple(other for other in closed if inside(other, room)))

    def test_a_generator(self):
        self.assertTrue(inspect.isgeneratorfunction(closed_rooms))
        rooms = closed_rooms(Web(COPIES))
        self.assertRow(next(rooms), (0, 0))
        self.assertRow(next(rooms), (1, 1))
        self.assertRow(list(rooms)[0], (2, 2))

    def test_five_houses(self):
        web = copying_web(5)
        self.assertEqual(list(closed_rooms(web)), all_rooms(5))
        self.assertRow(room_counts(web), (32, 80, 80, 40, 10, 1))
        self.assertEqual(closed_about(web, (2,) * 5), ((2,) * 5,))
        self.assertRow(room_counts(constant_web(5)), (1, 5, 10, 10, 5, 1))

    def test_no_closed_room_with_few_free_houses(self):
        web = Web([("rows", (house,), (1, 0)) for house in range(3)])
        self.assertRow(room_counts(web), (0, 0, 0, 1))

    def test_limit(self):
        for size in (6, 12):
            web = constant_web(size)
            for call in (closed_about, closed_inside):
                self.refused(TooLarge, call, web, (0,) * size, count=size, limit=5)
            self.refused(TooLarge, room_counts, web, count=size, limit=5)
            rooms = closed_rooms(web)
            self.refused(TooLarge, next, rooms, count=size, limit=5)

    def test_arguments(self):
        for call in (closed_about, closed_inside):
            for room in ((), (0,), (0, 1, 2), (0, 3), (-1, 0), (VAST, 0)):
                self.refused(BadRoom, call, Web(COPIES), list(room), row=room)
            self.refused(BadRoom, call, constant_web(6), (0,) * 5, row=(0,) * 5)
