"""Points 30 and 31: rests and image rooms."""

from oldnews.closing import is_closed
from oldnews.errors import BadRoom, TooLarge
from oldnews.resting import image_room, rests
from oldnews.webs import Web
from tests.support import (
    COPIES, OPPOSITES, VAST, Case, all_rooms, all_states, constant_web, copying_web, digit_at,
    image_of, inside, some_webs, states_in_room,
)


class RestsTest(Case):
    def test_examples(self):
        self.assertRow(rests(Web(COPIES)), ((0, 0), (1, 1)))
        self.assertRow(rests(Web(OPPOSITES)), ((0, 1), (1, 0)))
        self.assertRow(rests(Web([("rows", (0,), (1, 0))])), ())

    def test_images(self):
        for size in (1, 2, 3, 5):
            for web in some_webs(size, 12):
                found = rests(web)
                self.assertRow(found, tuple(state for state in all_states(size)
                                            if image_of(web.rows(), state) == state))
                self.assertEqual(found, tuple(state for state in all_states(size)
                                              if is_closed(web, state)))

    def test_limit(self):
        self.assertRow(rests(copying_web(6)), tuple(all_states(6)))
        self.refused(TooLarge, rests, copying_web(7), count=7, limit=6)
        self.refused(TooLarge, rests, constant_web(12), count=12, limit=6)


class ImageRoomTest(Case):
    def test_digits_that_tables_take(self):
        for size in (1, 2, 3):
            for web in some_webs(size, 10):
                for room in all_rooms(size):
                    marks = []
                    for row in web.rows():
                        digits = {digit_at(row, state) for state in states_in_room(room)}
                        marks.append(2 if len(digits) == 2 else digits.pop())
                    found = self.unchanged(image_room, web, room)
                    self.assertRow(found, tuple(marks))
                    self.assertEqual(is_closed(web, room), inside(found, room))

    def test_twelve_houses(self):
        web = Web([("rows", (house, (house + 1) % 12) if house < 11 else (0, 11), (0, 0, 0, 1))
                   for house in range(12)])
        self.assertRow(image_room(web, (2,) * 11 + (0,)), (2,) * 10 + (0, 0))

    def test_arguments(self):
        for room in ((), (0,), (0, 1, 2), (0, 3), (-1, 0), (VAST, 0)):
            self.refused(BadRoom, image_room, Web(COPIES), list(room), row=room)
