"""Point 17: turned rooms and webs."""

from oldnews.errors import BadGroup, BadRoom
from oldnews.turning import turned_row, turned_web
from oldnews.webs import Web
from tests.support import VAST, Case, all_groups, all_rooms, all_states, some_webs

NO_GROUPS = [(3,), (-1,), (1, 0), (1, 1), (0, 1, 2, 3), (VAST,)]


class TurnedRowTest(Case):
    def test_marks(self):
        self.assertRow(self.unchanged(turned_row, (0, 1, 2, 0, 1, 2), (0, 1, 2)), (1, 0, 2, 0, 1, 2))

    def test_all_rooms(self):
        for room in all_rooms(3):
            for group in all_groups(3):
                wanted = tuple({0: 1, 1: 0, 2: 2}[mark] if house in group else mark
                               for house, mark in enumerate(room))
                self.assertRow(turned_row(room, group), wanted)
                self.assertRow(turned_row(wanted, group), room)

    def test_sizes(self):
        for size in range(1, 13):
            self.assertRow(turned_row((0,) * size, (size - 1,)), (0,) * (size - 1) + (1,))
            self.assertRow(turned_row((0,) * size, ()), (0,) * size)

    def test_arguments(self):
        for row in ((), (0,) * 13, (0, 3, 1), (0, 1, VAST)):
            self.refused(BadRoom, turned_row, row, (9,), row=row)
        for group in NO_GROUPS:
            self.refused(BadGroup, turned_row, (0, 1, 2), list(group), row=group)
        self.refused(BadGroup, turned_row, (0,) * 12, (12,), row=(12,))


class TurnedWebTest(Case):
    def test_images(self):
        for size in (1, 2, 3, 4):
            for web in some_webs(size, 6):
                before = web.rows()
                for group in all_groups(size):
                    turned = turned_web(web, group)
                    for state in all_states(size):
                        self.assertEqual(turned.image(turned_row(state, group)),
                                         turned_row(web.image(state), group))
                    self.assertEqual([(row[0], row[1]) for row in turned.rows()],
                                     [("rows", web.hears(house)) for house in range(size)])
                    self.assertFrozen(turned.rows())
                self.assertRow(web.rows(), before)

    def test_houses_that_are_not_used_stay_heard(self):
        web = Web([("terms", ((0, 1), (1, -1)), ((),)), ("rows", (0,), (1, 1))])
        self.assertRow(turned_web(web, (0,)).rows(),
                       (("rows", (0, 1), (0, 0, 0, 0)), ("rows", (0,), (1, 1))))

    def test_the_empty_group(self):
        web = Web([("terms", ((0, 1), (1, -1)), ((0,), (1,))), ("rows", (0,), (1, 0))])
        self.assertRow(turned_web(web, ()).rows(),
                       (("rows", (0, 1), (1, 0, 1, 1)), ("rows", (0,), (1, 0))))

    def test_turning_twice(self):
        for web in some_webs(3, 10):
            plain = turned_web(web, ())
            for group in all_groups(3):
                self.assertRow(turned_web(turned_web(web, group), group).rows(), plain.rows())

    def test_lists(self):
        group = [0, 2]
        web = some_webs(3, 1)[0]
        self.assertRow(turned_web(web, group).rows(), turned_web(web, (0, 2)).rows())
        self.assertEqual(group, [0, 2])

    def test_arguments(self):
        for group in NO_GROUPS:
            self.refused(BadGroup, turned_web, some_webs(3, 1)[0], list(group), row=group)
