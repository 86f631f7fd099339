"""Points 80 and 81: holds, held webs and rows, and rooms that show a hold."""

from oldnews.errors import BadGroup, BadHold, BadRoom
from oldnews.holds import held_row, held_web, hold_of, shows
from oldnews.webs import Web
from tests.support import (
    COPIES, Case, all_groups, all_holds, all_rooms, all_states, bad_groups, bad_holds, bad_rooms,
    constant_web, copying_web, held_by_hand, listed, some_webs,
)


class HeldWebTest(Case):
    def test_example(self):
        web = Web(COPIES)
        self.assertRow(held_web(web, ((1, 1),)).rows(),
                       (("rows", (1,), (0, 1)), ("rows", (), (1,))))
        self.assertRow(web.rows(), COPIES)

    def test_all_holds(self):
        for size in (1, 2, 3):
            for web in some_webs(size, 6, seed=81):
                before = web.rows()
                for hold in all_holds(size):
                    found = held_web(web, hold)
                    self.assertRow(found.rows(), held_by_hand(web, hold).rows())
                    self.assertRow(held_web(web, listed(hold)).rows(), found.rows())
                    for state in all_states(size):
                        wanted = tuple(dict(hold).get(house, digit)
                                       for house, digit in enumerate(web.image(state)))
                        self.assertRow(found.image(state), wanted)
                self.assertRow(web.rows(), before)

    def test_no_house_and_all_houses(self):
        for web in some_webs(12, 5, seed=82):
            self.assertRow(held_web(web, ()).rows(), web.rows())
            hold = tuple((house, house % 2) for house in range(12))
            self.assertRow(held_web(web, hold).rows(),
                           tuple(("rows", (), (house % 2,)) for house in range(12)))

    def test_arguments(self):
        for web in (Web(COPIES), copying_web(12)):
            self.checked(held_web, [web, ()], (1, BadHold, "row", bad_holds(web.size)))
            for hold in bad_holds(web.size):
                self.refused(BadHold, held_web, web, listed(hold), row=hold)
                self.refused(BadHold, held_web, web, tuple(listed(hold)), row=hold)
        self.refused(BadHold, held_web, constant_web(1), [[1, 0]], row=((1, 0),))


class HeldRowTest(Case):
    def test_example(self):
        self.assertRow(self.unchanged(held_row, (0, 2, 2), ((0, 1), (2, 0))), (1, 2, 0))

    def test_all_rooms(self):
        for size in (1, 2, 3):
            for room in all_rooms(size):
                for hold in all_holds(size):
                    digits = dict(hold)
                    wanted = tuple(digits.get(house, room[house]) for house in range(size))
                    self.assertRow(self.unchanged(held_row, room, hold), wanted)

    def test_rooms_of_any_size(self):
        for size in range(1, 13):
            room = ((0, 1, 2) * 4)[:size]
            self.assertRow(held_row(room, ()), room)
            last = room[:-1] + (1,)
            self.assertRow(held_row(list(room), [[size - 1, 1]]), last)
            self.refused(BadHold, held_row, room, [[size, 1]], row=((size, 1),))
            hold = tuple((house, 1) for house in range(size))
            self.assertRow(held_row(room, hold), (1,) * size)

    def test_arguments(self):
        for size in (2, 12):
            rooms = [room for room in bad_rooms(size) if not 0 < len(room) < 13 or max(room) > 2
                     or min(room) < 0]
            self.checked(held_row, [(0,) * size, ()], (0, BadRoom, "row", rooms),
                         (1, BadHold, "row", bad_holds(size)))


class HoldOfTest(Case):
    def test_all_rooms_and_groups(self):
        for size in (1, 2, 3):
            for room in all_rooms(size):
                for group in all_groups(size):
                    wanted = tuple((house, room[house]) for house in group if room[house] < 2)
                    self.assertRow(self.unchanged(hold_of, room, group), wanted)

    def test_the_empty_group_and_all_houses(self):
        for size in range(1, 13):
            room = ((0, 1, 2) * 4)[:size]
            self.assertRow(hold_of(room, ()), ())
            self.assertRow(hold_of(room, tuple(range(size))),
                           tuple((house, mark) for house, mark in enumerate(room) if mark != 2))
            self.assertRow(hold_of((2,) * size, list(range(size))), ())

    def test_the_room_shows_it(self):
        for room in all_rooms(3):
            for group in all_groups(3):
                hold = hold_of(room, group)
                self.assertTruth(shows(room, hold), True)
                self.assertRow(held_row(room, hold), room)

    def test_arguments(self):
        self.checked(hold_of, [(0, 1, 2), (0, 2)],
                     (0, BadRoom, "row", [(), (0,) * 13, (0, 1, 3), (-1, 0)]),
                     (1, BadGroup, "row", bad_groups(3)))


class ShowsTest(Case):
    def test_example(self):
        self.assertTruth(self.unchanged(shows, (0, 2, 1), ((0, 0), (2, 1))), True)
        self.assertTruth(shows((0, 2, 1), ((0, 0), (1, 1))), False)
        self.assertTruth(shows((0, 2, 1), ((1, 0),)), False)
        self.assertTruth(shows((0, 2, 1), ((2, 0),)), False)

    def test_all_rooms_and_holds(self):
        for size in (1, 2, 3):
            for room in all_rooms(size):
                for hold in all_holds(size):
                    wanted = all((room[house], digit) in ((0, 0), (1, 1)) for house, digit in hold)
                    self.assertTruth(self.unchanged(shows, room, hold), wanted)

    def test_every_room_shows_the_empty_hold(self):
        for size in range(1, 13):
            for mark in (0, 1, 2):
                self.assertTruth(shows((mark,) * size, ()), True)
                hold = tuple((house, 1) for house in range(size))
                self.assertTruth(shows([mark] * size, hold), mark == 1)

    def test_arguments(self):
        for size in (2, 12):
            self.checked(shows, [(0,) * size, ()],
                         (0, BadRoom, "row", [(), (0,) * 13, (3,) * size, (-1,) * size]),
                         (1, BadHold, "row", bad_holds(size)))
