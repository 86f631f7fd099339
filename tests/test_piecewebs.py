"""Points 73 to 75: webs of groups, rims and parts."""

import random

from oldnews.errors import BadGroup, BadRoom, BadSize, HearsOutside
from oldnews.piecewebs import part_of, piece_web, put_back, rim, with_piece
from oldnews.webs import Web
from tests.support import (
    COPIES, VAST, Case, all_groups, all_rooms, all_states, bad_groups, constant_web, copying_web,
    digit_at, some_webs,
)
from tests.test_hearers import EXAMPLE, heard_houses, upstream_groups


def renumbered_by_hand(row, numbers):
    """The table row in which each house number is replaced by the one of the dict."""
    kind, heard, body = row
    if kind == "rows":
        return (kind, tuple(numbers[house] for house in heard), body)
    return (kind, tuple((numbers[house], sign) for house, sign in heard),
            tuple(tuple(numbers[house] for house in term) for term in body))


class PieceWebTest(Case):
    def test_table_rows_of_both_kinds(self):
        web = Web((("rows", (), (1,)), ("terms", ((1, -1), (3, 1)), ((), )),
                   ("rows", (0, 2), (0, 1, 1, 0)), ("terms", ((1, 1), (3, -1)), ((1,), (3,)))))
        self.assertRow(self.unchanged(piece_web, web, (1, 3)).rows(), (
            ("terms", ((0, -1), (1, 1)), ((),)), ("terms", ((0, 1), (1, -1)), ((0,), (1,)))))
        self.assertRow(piece_web(web, [0, 2]).rows(),
                       (("rows", (), (1,)), ("rows", (0, 1), (0, 1, 1, 0))))
        self.assertRow(piece_web(web, (0, 1, 2, 3)).rows(), web.rows())

    def unchanged(self, call, *args):
        found = call(*args)
        args = (args[0], list(args[1])) + args[2:]
        again = call(*args)
        self.assertEqual(again.rows(), found.rows())
        return found

    def test_small_webs(self):
        for size in (1, 2, 3, 5):
            for web in some_webs(size, 15, seed=55, most=2):
                before = web.rows()
                upstream = upstream_groups(web)
                heard = heard_houses(web)
                for group in all_groups(size):
                    if not group:
                        self.refused(BadSize, piece_web, web, group, count=0)
                    elif group not in upstream:
                        outward = [house for house in group if not heard[house] <= set(group)]
                        self.refused(HearsOutside, piece_web, web, group, house=outward[0])
                    else:
                        numbers = {house: group.index(house) for house in group}
                        wanted = tuple(renumbered_by_hand(before[house], numbers)
                                       for house in group)
                        self.assertRow(piece_web(web, group).rows(), wanted)
                self.assertEqual(web.rows(), before)

    def test_errors(self):
        web = Web(EXAMPLE)
        self.refused(HearsOutside, piece_web, web, (0, 1), house=0)
        self.refused(HearsOutside, piece_web, web, (1, 2), house=2)
        self.refused(HearsOutside, piece_web, web, [0], house=0)
        self.refused(BadSize, piece_web, web, [], count=0)
        # A house that is heard but not used is heard all the same.
        web = Web((("rows", (1,), (1, 1)), ("rows", (), (0,))))
        self.refused(HearsOutside, piece_web, web, (0,), house=0)

    def test_arguments(self):
        for web in (Web(COPIES), copying_web(12)):
            self.checked(piece_web, [web, tuple(range(web.size))],
                         (1, BadGroup, "row", bad_groups(web.size)))
            self.checked(rim, [web, (0, 1)], (1, BadGroup, "row", bad_groups(web.size)))
            for piece in (Web(COPIES), copying_web(5)):
                for group in bad_groups(web.size):
                    self.refused(BadGroup, with_piece, web, list(group), piece, row=group)


class RimTest(Case):
    def test_examples(self):
        web = Web(EXAMPLE)
        self.assertRow(rim(web, (0,)), (0,))
        self.assertRow(rim(web, [1]), (1,))
        self.assertRow(rim(web, (0, 1)), (0, 1))
        self.assertRow(rim(web, (0, 2)), ())
        self.assertRow(rim(web, (1, 2)), (2,))
        self.assertRow(rim(web, ()), ())
        self.assertRow(rim(web, (0, 1, 2)), ())
        # The lamp that is heard does not matter.
        self.assertRow(rim(Web((("rows", (), (1,)), ("rows", (0,), (1, 1)))), (0,)), (0,))

    def test_small_webs(self):
        for size in (1, 2, 4):
            for web in some_webs(size, 12, seed=56, most=2):
                heard = heard_houses(web)
                for group in all_groups(size):
                    wanted = tuple(house for house in group if any(
                        house in heard[other] for other in range(size) if other not in group))
                    found = rim(web, group)
                    self.assertRow(found, wanted)
                    self.assertEqual(rim(web, list(group)), found)


class WithPieceTest(Case):
    def test_table_rows_of_both_kinds(self):
        web = constant_web(4, 1)
        piece = Web((("terms", ((0, 1), (1, -1)), ((0,), (1,))), ("rows", (0, 1), (0, 1, 1, 0))))
        for group in ((1, 3), [1, 3]):
            self.assertRow(with_piece(web, group, piece).rows(), (
                ("rows", (), (1,)), ("terms", ((1, 1), (3, -1)), ((1,), (3,))),
                ("rows", (), (1,)), ("rows", (1, 3), (0, 1, 1, 0))))
        self.assertEqual(web.rows(), constant_web(4, 1).rows())
        self.assertEqual(piece.rows()[1], ("rows", (0, 1), (0, 1, 1, 0)))

    def test_small_webs(self):
        for size in (2, 3, 5):
            for web in some_webs(size, 6, seed=57):
                rows = web.rows()
                for group in all_groups(size)[1:]:
                    for piece in some_webs(len(group), 2, seed=58):
                        numbers = dict(enumerate(group))
                        wanted = list(rows)
                        for house, row in zip(group, piece.rows()):
                            wanted[house] = renumbered_by_hand(row, numbers)
                        made = with_piece(web, group, piece)
                        self.assertRow(made.rows(), tuple(wanted))
                        # The group is upstream in the web that is made.
                        self.assertRow(piece_web(made, group).rows(), piece.rows())

    def test_there_and_back(self):
        for web in some_webs(4, 12, seed=59, most=2):
            for group in upstream_groups(web)[1:]:
                piece = piece_web(web, group)
                self.assertRow(with_piece(web, group, piece).rows(), web.rows())

    def test_other_sizes(self):
        for piece in (Web(COPIES), constant_web(1), constant_web(12)):
            for group in ((), (0,), (1, 2), (0, 1, 3), (0, 1, 2, 3)):
                if len(group) != piece.size:
                    self.refused(BadSize, with_piece, constant_web(4), group, piece,
                                 count=piece.size)


class PartTest(Case):
    def test_examples(self):
        self.assertRow(self.unchanged(part_of, (0, 2, 1, 2), (0, 3)), (0, 2))
        self.assertRow(self.unchanged(put_back, (0, 2, 1, 2), (0, 3), (2, 1)), (2, 2, 1, 1))

    def test_the_empty_group_and_all_houses(self):
        for size in range(1, 13):
            room = ((0, 1, 2) * 4)[:size]
            houses = tuple(range(size))
            self.assertRow(part_of(room, ()), ())
            self.assertRow(part_of(list(room), list(houses)), room)
            self.assertRow(put_back(room, (), ()), room)
            self.assertRow(put_back((2,) * size, houses, list(room)), room)

    def test_all_rooms(self):
        rng = random.Random(24)
        for room in all_rooms(3):
            for group in all_groups(3):
                part = tuple(room[house] for house in group)
                self.assertRow(part_of(room, group), part)
                self.assertRow(put_back(room, group, part), room)
                other = tuple(rng.randint(0, 2) for _ in group)
                made = put_back(room, group, other)
                self.assertRow(part_of(made, group), other)
                rest = tuple(house for house in range(3) if house not in group)
                self.assertEqual(part_of(made, rest), part_of(room, rest))

    def test_arguments(self):
        rooms = [(), (0,) * 13, (0, 1, 3), (-1, 0, 0), (VAST,)]
        parts = [(), (0,), (0, 1, 2), (0, 3), (-1, 0), (0, VAST), (2,) * 100]
        self.checked(part_of, [(0, 1, 2), (0, 2)], (0, BadRoom, "row", rooms),
                     (1, BadGroup, "row", bad_groups(3)))
        self.checked(put_back, [(0, 1, 2), (0, 2), (1, 1)], (0, BadRoom, "row", rooms),
                     (1, BadGroup, "row", bad_groups(3)), (2, BadRoom, "row", parts))
        self.refused(BadRoom, put_back, (0, 1), (), [0], row=(0,))

    def test_houses_of_the_web_of_a_group(self):
        for web in some_webs(3, 6, seed=60, most=2):
            for group in upstream_groups(web)[1:]:
                piece = piece_web(web, group)
                for state in all_states(3):
                    part = part_of(state, group)
                    for number, house in enumerate(group):
                        self.assertEqual(piece.value(number, part),
                                         digit_at(web.rows()[house], state))
