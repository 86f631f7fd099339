"""Points 115 to 117: webs that agree on a room, and edits."""

import random

from oldnews.edits import agree_on, edited
from oldnews.errors import (
    BadDigit, BadEdit, BadHold, BadHouse, BadNames, BadRoom, BadTable, NotHeld,
)
from oldnews.leasts import least_room
from oldnews.webs import Web
from tests.support import (
    COPIES, OPPOSITES, VAST, Case, all_rooms, all_states, bad_holds, bad_rooms, bits_row,
    constant_web, copying_web, digit_at, listed, some_webs, states_in_room, terms_row,
)

NAMES = ("mill", "oak")
TWELVE = tuple("abcdefghijkl")


def bad_names(size):
    """Rows of strings that are not the names of so many houses."""
    good = TWELVE[:size]
    return [good[:-1] + (wrong,) for wrong in ("", "Oak", "oak ", "oak1", "ninechars", "a-b")] + [
        good[:-1], good + ("oak",), (), good[:-1] + good[:1], ("a",) * size]


def near_webs(size, many, seed):
    """Pairs of webs that differ in few digits, with tables of both kinds."""
    rng = random.Random(seed)
    pairs = []
    for web in some_webs(size, many, seed=seed):
        rows = list(web.rows())
        for house in range(size):
            if rng.randint(0, 1):
                # The same digits in a table that hears more houses, or one digit more or less.
                heard = tuple(sorted(rng.sample(range(size), min(size, 4))))
                if set(web.hears(house)) <= set(heard):
                    bits = [digit_at(web.rows()[house], dict(zip(heard, digits)))
                            for digits in all_states(len(heard))]
                    bits[rng.randrange(len(bits))] ^= rng.randint(0, 1)
                    rows[house] = ("rows", heard, tuple(bits))
        pairs.append((web, Web(rows)))
    return pairs


class AgreeTest(Case):
    def test_examples(self):
        web, other = Web(COPIES), Web((("rows", (0, 1), (0, 1, 1, 1)), ("rows", (0,), (0, 1))))
        self.assertTruth(self.unchanged(agree_on, web, other, (0, 2)), True)
        self.assertTruth(self.unchanged(agree_on, web, other, (2, 2)), False)
        self.assertTruth(agree_on(web, other, (1, 0)), False)
        self.assertTruth(agree_on(web, other, (2, 1)), True)
        # What is heard does not matter, and neither do the kinds.
        other = Web((("terms", ((1, 1),), ((1,),)), ("rows", (0, 1), (0, 0, 1, 1))))
        self.assertTruth(agree_on(web, other, (2, 2)), True)

    def test_two_sizes(self):
        for size in (1, 2, 12):
            for other in (1, 2, 3, 12):
                self.assertTruth(agree_on(constant_web(size), constant_web(other), (2,) * size),
                                 size == other)

    def test_against_all_states(self):
        found = set()
        for size, many in ((1, 10), (2, 20), (3, 20), (4, 6)):
            pairs = near_webs(size, many, 200) + list(zip(some_webs(size, 5, seed=201),
                                                          some_webs(size, 5, seed=202)))
            for web, other in pairs:
                for room in all_rooms(size)[::1 if size < 4 else 3]:
                    wanted = all(web.image(state) == other.image(state)
                                 for state in states_in_room(room))
                    found.add((size, wanted))
                    self.assertTruth(self.unchanged(agree_on, web, other, room), wanted)
                    self.assertTruth(agree_on(other, web, room), wanted)
        self.assertEqual(len(found), 8)

    def test_twelve_free_houses(self):
        # The two tables hear eight houses together, and differ only if all lamps are on.
        rows = [("rows", (house,), (0, 1)) for house in range(12)]
        web = Web([("rows", (0, 1, 2, 3), (0,) * 15 + (1,))] + rows[1:])
        other = Web([("rows", (4, 5, 6, 7), (0,) * 15 + (1,))] + rows[1:])
        self.assertTruth(agree_on(web, other, (2,) * 12), False)
        self.assertTruth(agree_on(web, other, (2, 0, 2, 2, 2, 2, 0, 2) + (2,) * 4), True)
        self.assertTruth(agree_on(web, other, (1,) * 8 + (2,) * 4), True)
        self.assertTruth(agree_on(web, other, (1,) * 7 + (2,) * 5), False)

    def test_the_least_room(self):
        agreeing = 0
        for web, other in near_webs(3, 60, 203):
            for state in all_states(3):
                room = least_room(web, state)
                if agree_on(web, other, room):
                    agreeing += web.rows() != other.rows()
                    self.assertRow(least_room(other, state), room)
        self.assertGreater(agreeing, 20)

    def test_arguments(self):
        for web in (Web(COPIES), copying_web(12)):
            for other in (web, constant_web(3)):
                self.checked(agree_on, [web, other, (0,) * web.size],
                             (2, BadRoom, "row", bad_rooms(web.size)))
                for room in bad_rooms(web.size):
                    self.refused(BadRoom, agree_on, web, other, list(room), row=room)


class EditedTest(Case):
    def edited(self, *args):
        """What is returned, with the table rows in place of the web, for tuples and lists."""
        before = args[1].rows()
        names, web, hold = edited(*args)
        again = edited(*[list(args[0]), args[1]] + listed(args[2:]))
        self.assertEqual((names, web.rows(), hold), (again[0], again[1].rows(), again[2]))
        self.assertIs(web.__class__, Web)
        self.assertRow(args[1].rows(), before)
        self.assertFrozen((names, web.rows(), hold))
        return names, web.rows(), hold

    def test_tables(self):
        row = ("terms", ((0, 1), (1, -1)), ((0,), (1,)))
        self.assertRow(self.edited(NAMES, Web(COPIES), (), ("table", 1, row)),
                       (NAMES, (COPIES[0], row), ()))
        # Also if the house is held; then the free web alone changes.
        self.assertRow(self.edited(NAMES, Web(COPIES), ((1, 0),), ("table", 1, row)),
                       (NAMES, (COPIES[0], row), ((1, 0),)))
        self.assertRow(self.edited(NAMES, Web(COPIES), (), ("table", 0, COPIES[0])),
                       (NAMES, COPIES, ()))

    def test_holds(self):
        web = Web(COPIES)
        for hold, edit, wanted in (
                ((), ("hold", 1, 0), ((1, 0),)), (((1, 0),), ("hold", 0, 1), ((0, 1), (1, 0))),
                (((0, 1),), ("hold", 1, 1), ((0, 1), (1, 1))), (((1, 0),), ("hold", 1, 1), ((1, 1),)),
                (((1, 0),), ("hold", 1, 0), ((1, 0),)), (((1, 0),), ("release", 1), ()),
                (((0, 1), (1, 0)), ("release", 0), ((1, 0),)),
                (((0, 1), (1, 0)), ("hold", 0, 0), ((0, 0), (1, 0)))):
            self.assertRow(self.edited(NAMES, web, hold, edit), (NAMES, COPIES, wanted))

    def test_names(self):
        web = Web(COPIES)
        self.assertRow(self.edited(NAMES, web, (), ("rename", 0, "elm")), (("elm", "oak"), COPIES, ()))
        self.assertRow(self.edited(NAMES, web, ((0, 1),), ("rename", 1, "eightlet")),
                       (("mill", "eightlet"), COPIES, ((0, 1),)))
        self.assertRow(self.edited(NAMES, web, (), ("rename", 1, "oak")), (NAMES, COPIES, ()))

    def test_small_webs(self):
        rng = random.Random(204)
        for size in (1, 3, 12):
            for web in some_webs(size, 10, seed=205):
                for make in (bits_row, terms_row):
                    house, row = rng.randrange(size), make(rng, size)
                    rows = list(web.rows())
                    rows[house] = row
                    self.assertRow(self.edited(TWELVE[:size], web, (), ("table", house, row)),
                                   (TWELVE[:size], tuple(rows), ()))

    def test_kinds_that_are_none(self):
        web = Web(COPIES)
        for kind in ("", "Table", "tables", "hold ", "held", "undo", "x" * 1000):
            # Whatever follows the kind.
            for rest in ((), (0,), (9,), (-1, 5), (0, 5, 5), ("mill",), (0, ("bits", (), ()))):
                self.refused(BadEdit, edited, NAMES, web, (), (kind,) + rest, kind=kind)
                self.refused(BadEdit, edited, NAMES, web, (), listed((kind,) + rest), kind=kind)

    def test_errors_of_the_items_in_order(self):
        web = Web(COPIES)
        for house in (2, -1, VAST, -VAST):
            for edit in (("table", house, ("bits", (), ())), ("table", house, COPIES[0]),
                         ("hold", house, 7), ("hold", house, 1), ("release", house),
                         ("rename", house, "Oak"), ("rename", house, "elm")):
                self.refused(BadHouse, edited, NAMES, web, (), edit, house=house)
                self.refused(BadHouse, edited, NAMES, web, ((0, 1),), list(edit), house=house)
        for part, row in (("kind", ("bits", (9,), ())), ("heard", ("rows", (0, 2), (0, 1))),
                          ("heard", ("terms", ((0, 0),), ())), ("bits", ("rows", (0,), (0, 2))),
                          ("terms", ("terms", ((0, 1),), ((1,),)))):
            self.refused(BadTable, edited, NAMES, web, (), ("table", 1, row), part=part)
            self.refused(BadTable, edited, NAMES, web, ((1, 0),), ["table", 1, listed(row)],
                         part=part)
        for digit in (2, -1, VAST, -VAST):
            self.refused(BadDigit, edited, NAMES, web, ((0, 1),), ("hold", 0, digit), digit=digit)

    def test_not_held(self):
        for hold, house in (((), 0), (((0, 1),), 1), (((1, 1),), 0)):
            self.refused(NotHeld, edited, NAMES, Web(COPIES), hold, ("release", house), house=house)
            self.refused(NotHeld, edited, list(NAMES), Web(COPIES), listed(hold),
                         ["release", house], house=house)

    def test_names_that_are_not_valid(self):
        for house, name in ((0, "oak"), (1, "mill"), (0, ""), (0, "Elm"), (1, "ninechars"),
                            (1, "e m"), (0, "elm1"), (0, "x" * 1000)):
            row = (name, "oak") if house == 0 else ("mill", name)
            self.refused(BadNames, edited, NAMES, Web(COPIES), (), ("rename", house, name), row=row)
            self.refused(BadNames, edited, list(NAMES), Web(COPIES), (), ["rename", house, name],
                         row=row)

    def test_arguments(self):
        for web in (Web(OPPOSITES), constant_web(12)):
            good = TWELVE[:web.size]
            self.checked(lambda names, hold: edited(names, web, hold, ("hold", 0, 1)), [good, ()],
                         (0, BadNames, "row", bad_names(web.size)),
                         (1, BadHold, "row", bad_holds(web.size)))
            for edit in (("paint", 9), ("", 0)):
                for names in bad_names(web.size):
                    self.refused(BadNames, edited, names, web, ((99, 0),), edit, row=names)
                for hold in bad_holds(web.size):
                    self.refused(BadHold, edited, good, web, hold, edit, row=hold)
                    self.refused(BadHold, edited, good, web, listed(hold), ("release", 0), row=hold)
                self.refused(BadEdit, edited, good, web, (), edit, kind=edit[0])
