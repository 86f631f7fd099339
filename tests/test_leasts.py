"""Points 25 and 26: the least room about a room, and the freeing order."""

from oldnews.errors import BadGroup, BadOrder, BadRoom
from oldnews.leasts import freeing_order, least_room
from oldnews.webs import Web
from tests.support import (
    COPIES, VAST, Case, all_groups, all_orders, all_rooms, inside, some_webs,
)
from tests.test_closing import loose_by_states


def least_by_rooms(web, room, group):
    """The least one of all rooms about the room that are closed for the group."""
    rooms = [other for other in all_rooms(web.size)
             if inside(room, other) and loose_by_states(web, other, group) == ()]
    leasts = [other for other in rooms if all(inside(other, third) for third in rooms)]
    assert len(leasts) == 1
    return leasts[0]


class LeastRoomTest(Case):
    def test_against_all_rooms(self):
        for size, many in ((1, 6), (2, 8), (3, 3)):
            for web in some_webs(size, many):
                for room in all_rooms(size):
                    for group in all_groups(size):
                        found = least_room(web, room, group=group)
                        self.assertRow(found, least_by_rooms(web, room, group))
                        for house in range(size):
                            if house not in group:
                                self.assertEqual(found[house], room[house])

    def test_none_stands_for_all_houses(self):
        for web in some_webs(3, 10):
            for room in all_rooms(3):
                wanted = least_room(web, room, group=(0, 1, 2))
                self.assertRow(least_room(web, room), wanted)
                self.assertRow(least_room(web, room, group=None), wanted)

    def test_the_empty_group(self):
        self.assertRow(least_room(Web(COPIES), [0, 1], group=[]), (0, 1))

    def test_example(self):
        web = Web(COPIES)
        self.assertRow(self.unchanged(least_room, web, (0, 1)), (2, 2))
        self.assertRow(self.unchanged(least_room, web, (0, 1), group=(1,)), (0, 2))
        self.assertRow(least_room(web, (0, 0)), (0, 0))

    def test_twelve_houses(self):
        # Each house copies the next one, and the last one stays.
        rows = [("rows", (min(house + 1, 11),), (0, 1)) for house in range(12)]
        web = Web(rows)
        self.assertRow(least_room(web, (0,) * 11 + (1,)), (2,) * 11 + (1,))
        self.assertRow(freeing_order(web, (0,) * 11 + (1,)), tuple(range(10, -1, -1)))
        self.assertRow(least_room(web, (0,) * 11 + (1,), group=(0, 1, 9, 10)),
                       (0,) * 9 + (2, 2, 1))

    def test_arguments(self):
        web = Web(COPIES)
        for room in ((), (0,), (0, 1, 2), (0, 3), (-1, 0), (VAST, 0)):
            self.refused(BadRoom, least_room, web, list(room), row=room)
            self.refused(BadRoom, lambda: least_room(web, room, group=(5,)), row=room)
        for group in ((2,), (1, 0), (0, 0), (-1,), (VAST,)):
            self.refused(BadGroup, lambda: least_room(web, (0, 1), group=list(group)), row=group)


class FreeingOrderTest(Case):
    def by_hand(self, web, room, group, order):
        freed = []
        while True:
            now = tuple(2 if house in freed else mark for house, mark in enumerate(room))
            loose = loose_by_states(web, now, group)
            if not loose:
                return tuple(freed)
            freed.append(min(loose, key=order.index))

    def test_all_orders(self):
        for web in some_webs(3, 6):
            for room in all_rooms(3):
                for group in ((0, 1, 2), (0, 2), (1,), ()):
                    least = least_room(web, room, group=group)
                    for order in all_orders(3):
                        found = freeing_order(web, room, group=group, order=order)
                        self.assertRow(found, self.by_hand(web, room, group, order))
                        self.assertEqual(
                            tuple(2 if house in found else mark
                                  for house, mark in enumerate(room)), least)

    def test_none(self):
        for web in some_webs(4, 10):
            for room in all_rooms(4)[::3]:
                group, order = (0, 1, 2, 3), (0, 1, 2, 3)
                self.assertRow(freeing_order(web, room),
                               self.by_hand(web, room, group, order))
                self.assertRow(freeing_order(web, room, group=(1, 3), order=None),
                               self.by_hand(web, room, (1, 3), order))
                self.assertRow(freeing_order(web, room, group=None, order=(3, 1, 0, 2)),
                               self.by_hand(web, room, group, (3, 1, 0, 2)))

    def test_the_order_matters(self):
        web = Web(COPIES)
        self.assertRow(freeing_order(web, (0, 1)), (0, 1))
        self.assertRow(self.unchanged(freeing_order, web, (0, 1), order=(1, 0)), (1, 0))
        self.assertRow(self.unchanged(freeing_order, web, (0, 1), group=(0,), order=(1, 0)), (0,))
        self.assertRow(freeing_order(web, (1, 1)), ())

    def test_arguments(self):
        web = Web(COPIES)
        no_order = (0, 0)
        self.refused(BadRoom, lambda: freeing_order(web, [0, 4], group=(5,), order=no_order),
                     row=(0, 4))
        self.refused(BadGroup, lambda: freeing_order(web, (0, 1), group=[5], order=no_order),
                     row=(5,))
        for order in ((), (0,), (0, 0), (0, 1, 2), (1, 2), (-1, 0), (0, VAST)):
            self.refused(BadOrder, lambda: freeing_order(web, (0, 1), order=list(order)), row=order)
            # The order is checked although it is not needed.
            self.refused(BadOrder, lambda: freeing_order(web, (0, 0), group=(), order=order),
                         row=order)
