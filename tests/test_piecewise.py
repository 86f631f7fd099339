"""Points 78 and 79: rooms and fates found piece by piece."""

import itertools
import random

from oldnews.errors import BadRoom, BadState, TooLarge
from oldnews.fates import fates
from oldnews.hearers import pieces
from oldnews.leasts import least_room
from oldnews.minimal import minimal_rooms
from oldnews.ordering import reordered_web
from oldnews.piecewebs import part_of, piece_web, rim, with_piece
from oldnews.piecewise import fates_by_pieces, least_by_pieces, minimal_by_pieces
from oldnews.webs import Web
from tests.support import (
    COPIES, OPPOSITES, Case, all_rooms, all_states, bad_rooms, bad_states, both_webs,
    constant_web, copying_web, some_webs,
)
from tests.test_hearers import upstream_groups

# Two houses with the minimal rooms (0, 0), (0, 1) and (1, 1); (1, 0) reaches all of them.
THREE_ENDS = (("rows", (0, 1), (0, 0, 0, 1)), ("rows", (0, 1), (0, 1, 1, 1)))


def circle(first, size):
    """Table rows of so many houses, each of which copies the one before it, in a circle."""
    return [("rows", (first + (k - 1) % size,), (0, 1)) for k in range(size)]


def copies(houses):
    """Table rows of houses that copy their own lamps."""
    return [("rows", (house,), (0, 1)) for house in houses]


def moved(rows, first):
    """The table rows of kind `rows` with house numbers that are increased."""
    return [(kind, tuple(first + house for house in heard), bits) for kind, heard, bits in rows]


def pieced_webs(many, seed):
    """Webs of 4 to 6 houses that keep most lamps, with houses that hear few lower numbers."""
    rng = random.Random(seed)
    webs = []
    for _ in range(many):
        size = rng.randint(4, 6)
        rows = []
        for house in range(size):
            near = [other for other in range(size) if other // 2 == house // 2]
            far = [other for other in range(size) if other // 2 < house // 2]
            heard = sorted(near + rng.sample(far, min(len(far), rng.randint(0, 2))))
            own = heard.index(house)
            bits = [digits[own] ^ (rng.randint(0, 4) == 0) for digits in all_states(len(heard))]
            rows.append(("rows", tuple(heard), tuple(bits)))
        webs.append(reordered_web(rng.sample(range(size), size), Web(rows)))
    return webs


class SmallWebsTest(Case):
    def test_examples(self):
        self.assertRow(minimal_by_pieces(Web(COPIES)), ((0, 0), (1, 1)))
        self.assertRow(self.unchanged(fates_by_pieces, Web(OPPOSITES), (0, 0)), ((0, 1), (1, 0)))
        self.assertRow(minimal_by_pieces(Web(THREE_ENDS)), ((0, 0), (0, 1), (1, 1)))
        self.assertRow(fates_by_pieces(Web(THREE_ENDS), (1, 0)), ((0, 0), (0, 1), (1, 1)))
        self.assertRow(fates_by_pieces(Web(THREE_ENDS), (0, 1)), ((0, 1),))

    def test_against_minimal_rooms_and_fates(self):
        several, undecided = 0, 0
        webs = [web for size in (1, 2, 3, 4) for web in both_webs(size, 8, seed=70)]
        webs += pieced_webs(40, 78) + [web for size in (4, 5, 6) for web in some_webs(size, 12, seed=71, most=2)]
        for web in webs:
            if max(len(piece) for piece in pieces(web)) > 5:
                self.refused(TooLarge, minimal_by_pieces, web, count=6, limit=5)
                continue
            wanted = minimal_rooms(web)
            self.assertRow(minimal_by_pieces(web), wanted)
            several += len(wanted) > 1 and len(pieces(web)) > 1
            for state in all_states(web.size)[::1 if web.size < 5 else 5]:
                found = self.unchanged(fates_by_pieces, web, state)
                self.assertRow(found, fates(web, state))
                undecided += 1 < len(found) < len(wanted)
        self.assertGreater(several, 20)
        self.assertGreater(undecided, 20)

    def test_several_pieces_in_any_order(self):
        rng = random.Random(72)
        for _ in range(10):
            # Two pieces side by side, and a piece of one house behind both.
            rows = list(THREE_ENDS) + moved(OPPOSITES, 2) + [
                ("rows", (0, 3, 4), tuple(rng.randint(0, 1) for _ in range(8)))]
            order = rng.sample(range(5), 5)
            web = reordered_web(order, Web(rows))
            self.assertRow(minimal_by_pieces(web), minimal_rooms(web))
            for state in all_states(5):
                self.assertRow(fates_by_pieces(web, state), fates(web, state))


class LargeWebsTest(Case):
    def test_pieces_one_behind_another(self):
        # Each circle of three has two ends on its own; then each copies the circle before it.
        rows = circle(0, 3) + circle(3, 3) + circle(6, 3) + circle(9, 3)
        self.assertRow(minimal_by_pieces(Web(rows)), tuple(sorted(
            sum(((digit,) * 3 for digit in digits), ()) for digits in all_states(4))))
        for first in (3, 6, 9):
            # The first house of a circle follows the circle before it if both lamps agree.
            rows[first] = ("rows", (first - 1, first + 2), (0, 0, 0, 1))
        wanted = ((0,) * 12, (1, 1, 1) + (0,) * 9, (1,) * 6 + (0,) * 6, (1,) * 9 + (0,) * 3,
                  (1,) * 12)
        self.assertRow(minimal_by_pieces(Web(rows)), wanted)
        self.assertRow(fates_by_pieces(Web(rows), (1,) * 11 + (0,)),
                       ((1,) * 9 + (0,) * 3, (1,) * 12))
        self.assertRow(fates_by_pieces(Web(rows), (0,) * 3 + (1,) * 9), ((0,) * 12,))

    def test_pieces_side_by_side(self):
        rows = [row for first in (0, 2, 4, 6, 8, 10) for row in moved(OPPOSITES, first)]
        web = Web(rows)
        ends = tuple(sum(pairs, ()) for pairs in itertools.product(((0, 1), (1, 0)), repeat=6))
        self.assertRow(minimal_by_pieces(web), ends)
        self.assertRow(fates_by_pieces(web, (0,) * 12), ends)
        self.assertRow(fates_by_pieces(web, (0, 1) * 5 + (1, 1)), (
            (0, 1) * 6, (0, 1) * 5 + (1, 0)))

    def test_free_houses_in_an_end(self):
        # House 0 turns for ever, and all other houses come to follow it.
        web = Web([("rows", (0,), (1, 0))] + [("rows", (house - 1,), (0, 1))
                                              for house in range(1, 12)])
        self.assertRow(minimal_by_pieces(web), ((2,) * 12,))
        self.assertRow(fates_by_pieces(web, (0, 1) * 6), ((2,) * 12,))


class LimitTest(Case):
    def test_pieces_of_five_and_six(self):
        five, six = circle(0, 5), circle(5, 6)
        web = Web(five + copies((5,)))
        self.assertRow(minimal_by_pieces(web), tuple(
            (one,) * 5 + (two,) for one in (0, 1) for two in (0, 1)))
        self.assertRow(fates_by_pieces(web, (1,) * 6), ((1,) * 6,))
        web = Web(five + six)
        for call, args in ((minimal_by_pieces, ()), (fates_by_pieces, ((0,) * 11,))):
            self.refused(TooLarge, call, web, *args, count=6, limit=5)

    def test_the_first_piece_that_is_too_large(self):
        for sizes in ((6, 2, 4), (2, 6), (4, 8), (12,), (5, 7)):
            rows = []
            for size in sizes:
                rows += circle(len(rows), size)
            web = Web(rows)
            count = [size for size in sizes if size > 5][0]
            self.refused(TooLarge, minimal_by_pieces, web, count=count, limit=5)
            self.refused(TooLarge, fates_by_pieces, web, (0,) * len(rows), count=count, limit=5)
        # The piece of the houses 0 to 5 hears the one of the houses 6 to 12, so it comes later.
        rows = circle(0, 5) + circle(5, 7)
        rows[0] = ("rows", (4, 5), (0, 0, 0, 1))
        self.refused(TooLarge, minimal_by_pieces, Web(rows), count=7, limit=5)
        rows = circle(0, 6) + circle(6, 6)
        self.assertEqual(pieces(Web(rows))[0], (0, 1, 2, 3, 4, 5))
        self.refused(TooLarge, minimal_by_pieces, Web(rows), count=6, limit=5)

    def test_sixty_four_rooms_and_more(self):
        self.assertRow(minimal_by_pieces(copying_web(6)), tuple(all_states(6)))
        # Houses that hear nothing add no rooms.
        web = Web(copies(range(6)) + [("rows", (), (1,))] * 6)
        self.assertRow(minimal_by_pieces(web), tuple(state + (1,) * 6 for state in all_states(6)))
        for size in range(7, 13):
            self.refused(TooLarge, minimal_by_pieces, copying_web(size), count=128, limit=64)

    def test_which_number_of_pieces_tells_the_count(self):
        # 32 rooms of five pieces and three of the sixth one, then as many as there may be.
        web = Web(copies(range(5)) + moved(THREE_ENDS, 5) + copies(range(7, 12)))
        self.refused(TooLarge, minimal_by_pieces, web, count=96, limit=64)
        # The piece of three ends comes first.
        web = Web(list(THREE_ENDS) + copies(range(2, 12)))
        self.refused(TooLarge, minimal_by_pieces, web, count=96, limit=64)
        # Behind the rooms in which house 0 is on, the pair has one end instead of three.
        pair = [("rows", (0, 1, 2), (0, 0, 0, 1) + (0,) * 4),
                ("rows", (0, 1, 2), (0, 1, 1, 1) + (0,) * 4)]
        rows = copies((0,)) + pair
        self.assertRow(minimal_by_pieces(Web(rows)), (
            (0, 0, 0), (0, 0, 1), (0, 1, 1), (1, 0, 0)))
        self.assertEqual(len(minimal_by_pieces(Web(rows + copies(range(3, 7))))), 64)
        self.refused(TooLarge, minimal_by_pieces, Web(rows + copies(range(3, 9))),
                     count=128, limit=64)
        rows = copies(range(6))
        rows += [(kind, (0, 6, 7), bits) for kind, _, bits in pair]
        # The states of the first house that are off have three rooms behind them.
        self.refused(TooLarge, minimal_by_pieces, Web(rows), count=128, limit=64)

    def test_fewer_rooms_later_do_not_matter(self):
        # Seven copies are too many, also if nothing is left of them for the houses behind them.
        web = Web(copies(range(7)) + [("rows", (0,), (1, 1))] * 3)
        self.refused(TooLarge, minimal_by_pieces, web, count=128, limit=64)

    def test_only_the_fates_count(self):
        web = copying_web(12)
        for state in ((0,) * 12, (0, 1) * 6):
            self.assertRow(fates_by_pieces(web, state), (state,))
        # Five pairs and one piece with three ends are 96 fates.
        rows = [row for first in (0, 2, 4, 6, 8) for row in moved(OPPOSITES, first)]
        web = Web(rows + moved(THREE_ENDS, 10))
        self.refused(TooLarge, fates_by_pieces, web, (0,) * 10 + (1, 0), count=96, limit=64)
        self.refused(TooLarge, minimal_by_pieces, web, count=96, limit=64)
        self.assertEqual(len(fates_by_pieces(web, (0,) * 10 + (0, 1))), 32)
        self.assertEqual(len(fates_by_pieces(web, (0,) * 8 + (0, 1) + (1, 0))), 48)

    def test_the_pieces_first(self):
        # The circle has two ends and the six copies 64.
        rows = circle(0, 6) + copies(range(6, 12))
        self.refused(TooLarge, minimal_by_pieces, Web(rows), count=6, limit=5)
        self.refused(TooLarge, fates_by_pieces, Web(rows), (0,) * 12, count=6, limit=5)


class LeastTest(Case):
    def test_against_least_room(self):
        rng = random.Random(73)
        for size in (1, 2, 3):
            for web in some_webs(size, 10, seed=74):
                for room in all_rooms(size):
                    self.assertRow(self.unchanged(least_by_pieces, web, room),
                                   least_room(web, room))
        for most in (1, 2, 4):
            for web in some_webs(12, 10, seed=75, most=most):
                for _ in range(10):
                    room = tuple(rng.choice((0, 0, 1, 1, 2)) for _ in range(12))
                    self.assertRow(least_by_pieces(web, room), least_room(web, room))

    def test_no_limit(self):
        web = Web(circle(0, 12))
        self.assertRow(least_by_pieces(web, (1,) + (0,) * 11), (2,) * 12)
        self.assertRow(least_by_pieces(copying_web(12), (0, 1) * 6), (0, 1) * 6)


class SameRimTest(Case):
    def test_other_pieces_with_the_same_parts_at_the_rim(self):
        alike, unlike = 0, 0
        for size, many in ((2, 20), (3, 30), (4, 30)):
            others = [web for count in (1, 2, 3) for web in both_webs(count, 20, seed=76)]
            for web in some_webs(size, many, seed=77, most=2):
                for group in upstream_groups(web)[1:]:
                    edge = rim(web, group)
                    beyond = tuple(house for house in range(size)
                                   if house in edge or house not in group)
                    inner = tuple(group.index(house) for house in edge)
                    for piece in others:
                        if piece.size != len(group):
                            continue
                        other = with_piece(web, group, piece)
                        self.assertEqual(rim(other, group), edge)
                        same = parts_of(piece, inner) == parts_of(piece_web(web, group), inner)
                        if same:
                            self.assertEqual(parts_of(web, beyond), parts_of(other, beyond))
                        alike += same and web.rows() != other.rows() and len(edge) > 0
                        unlike += not same
        self.assertGreater(alike, 50)
        self.assertGreater(unlike, 50)


def parts_of(web, group):
    return {part_of(room, group) for room in minimal_by_pieces(web)}


class ArgumentsTest(Case):
    def test_rows(self):
        for web in (Web(COPIES), constant_web(12), Web(circle(0, 12))):
            self.checked(least_by_pieces, [web, (0,) * web.size],
                         (1, BadRoom, "row", bad_rooms(web.size)))
            self.checked(fates_by_pieces, [web, (0,) * web.size],
                         (1, BadState, "row", bad_states(web.size)))
            for state in bad_states(web.size):
                self.refused(BadState, fates_by_pieces, web, list(state), row=state)
