"""Points 116 and 118 to 124: desks."""

import random

from oldnews.desk import Desk
from oldnews.edits import agree_on, edited
from oldnews.errors import (
    BadDigit, BadEdit, BadHold, BadHouse, BadNames, BadState, BadTable, BadText, EditFailed,
    NotHeld, NothingToRedo, NothingToUndo, TooLarge,
)
from oldnews.fates import fates, lamp_fates
from oldnews.holds import held_web
from oldnews.leasts import least_room
from oldnews.verdicts import verdict
from oldnews.webs import Web
from oldnews.writing import format_web
from tests.support import (
    COPIES, OPPOSITES, VAST, Case, all_states, bad_holds, bad_states, bits_row, constant_web,
    copying_web, listed, some_webs, terms_row,
)
from tests.test_edits import NAMES, TWELVE, bad_names
from tests.test_endings import copies_behind

TURN = ("rows", (0,), (1, 0))


def shown(desk):
    """All that a desk shows of itself."""
    return (desk.names, desk.web.rows(), desk.hold, desk.held.rows(), desk.journal(), desk.kept())


def some_edit(rng, size):
    """An edit, which may raise an error."""
    house = rng.randint(0, size if rng.randint(0, 9) == 0 else size - 1)
    kind = rng.choice(("table", "hold", "hold", "release", "rename", "paint"))
    if kind == "table":
        return (kind, house, rng.choice((bits_row, terms_row))(rng, size))
    if kind == "hold":
        return (kind, house, rng.choice((0, 1, 0, 1, 0, 1, 2)))
    if kind == "rename":
        return (kind, house, rng.choice(("elm", "ash", "fir", "a", "b", "Oak")))
    return (kind, house)


class Model:
    """A desk by the words of the document, which goes from one condition to the next."""

    def __init__(self, names, web):
        self.now = (names, web, ())
        self.past, self.future, self.kept = [], [], {}

    def make(self, edits):
        """Makes the edits, or raises the error of one of them with its place."""
        steps = [self.now]
        for place, edit in enumerate(edits):
            try:
                steps.append(edited(*steps[-1], edit))
            except ValueError as error:
                return place, error
        self.follow(steps)
        self.past.append((tuple(edits), steps))
        self.future = []
        return None

    def undo(self):
        self.future.append(self.past.pop())
        self.follow(self.future[-1][1][::-1])

    def redo(self):
        self.past.append(self.future.pop())
        self.follow(self.past[-1][1])

    def follow(self, steps):
        webs = [held_web(web, hold) for _, web, hold in steps]
        for before, after in zip(webs, webs[1:]):
            self.kept = {state: room for state, room in self.kept.items()
                         if agree_on(before, after, room)}
        self.now = steps[-1]

    def least(self, state):
        self.kept[state] = least_room(held_web(*self.now[1:]), state)
        return self.kept[state]


class DeskCase(Case):
    def assertDesk(self, desk, names, rows, hold):
        self.assertRow(desk.names, tuple(names))
        self.assertRow(desk.web.rows(), tuple(rows))
        self.assertRow(desk.hold, tuple(hold))
        self.assertRow(desk.held.rows(), held_web(Web(rows), hold).rows())

    def stays(self, desk, error, call, *args, **more):
        """Asserts that the call raises the error and leaves the desk, and its redo, as they were."""
        before, twin = shown(desk), shown(desk.twin())
        fault = self.refused(error, call, *args, **more)
        self.assertEqual(shown(desk), before)
        self.assertEqual(shown(desk.twin()), twin)
        return fault


class MakingTest(DeskCase):
    def test_a_new_desk(self):
        web = Web(COPIES)
        desk = Desk(list(NAMES), web)
        self.assertDesk(desk, NAMES, COPIES, ())
        self.assertRow(desk.journal(), ())
        self.assertRow(desk.kept(), ())
        desk = Desk(NAMES, web, hold=[[1, 0]])
        self.assertDesk(desk, NAMES, COPIES, ((1, 0),))
        self.assertIs(desk.web.__class__, Web)
        self.assertIs(desk.held.__class__, Web)

    def test_arguments(self):
        for web in (Web(COPIES), constant_web(12)):
            self.checked(lambda names, hold: Desk(names, web, hold=hold), [TWELVE[:web.size], ()],
                         (0, BadNames, "row", bad_names(web.size)),
                         (1, BadHold, "row", bad_holds(web.size)))

    def test_later_changes_of_arguments(self):
        names, hold, row = list(NAMES), [[1, 0]], ["rows", [0], [1, 0]]
        desk = Desk(names, Web(COPIES), hold=hold)
        edit = ["table", 0, row]
        desk.make(edit)
        edits = [["hold", 0, 1], ["rename", 0, "elm"]]
        desk.make_all(*edits)
        names[0], hold[0][1], row[1][0], row[2][0] = "fir", 1, 1, 0
        edit[1], edits[0][2], edits[1][2] = 1, 0, "fir"
        hold.append([3, 3])
        self.assertDesk(desk, ("elm", "oak"), (TURN, COPIES[1]), ((0, 1), (1, 0)))
        self.assertRow(desk.journal(), (
            (("table", 0, TURN),), (("hold", 0, 1), ("rename", 0, "elm"))))
        desk.undo()
        desk.undo()
        self.assertDesk(desk, NAMES, COPIES, ((1, 0),))
        desk.redo()
        desk.redo()
        self.assertDesk(desk, ("elm", "oak"), (TURN, COPIES[1]), ((0, 1), (1, 0)))


class EditTest(DeskCase):
    def test_each_kind(self):
        desk = Desk(NAMES, Web(COPIES))
        self.assertIsNone(desk.make(("hold", 1, 0)))
        self.assertDesk(desk, NAMES, COPIES, ((1, 0),))
        self.assertIsNone(desk.make(["table", 1, ["terms", [[0, -1]], [[0]]]]))
        row = ("terms", ((0, -1),), ((0,),))
        self.assertDesk(desk, NAMES, (COPIES[0], row), ((1, 0),))
        desk.make(("rename", 0, "elm"))
        desk.make(("hold", 1, 1))
        self.assertDesk(desk, ("elm", "oak"), (COPIES[0], row), ((1, 1),))
        desk.make(("release", 1))
        self.assertDesk(desk, ("elm", "oak"), (COPIES[0], row), ())
        self.assertRow(desk.journal(), (
            (("hold", 1, 0),), (("table", 1, row),), (("rename", 0, "elm"),), (("hold", 1, 1),),
            (("release", 1),)))

    def test_errors_of_one_edit(self):
        desk = Desk(NAMES, Web(COPIES), hold=((1, 0),))
        desk.make(("hold", 0, 1))
        desk.make(("release", 0))
        desk.undo()
        desk.least((0, 1))
        for edit, error, more in (
                (("paint", 9), BadEdit, {"kind": "paint"}), (("hold", 2, 9), BadHouse, {"house": 2}),
                (("hold", 0, 9), BadDigit, {"digit": 9}),
                (("table", 0, ("rows", (2,), (0, 1))), BadTable, {"part": "heard"}),
                (("table", -VAST, ()), BadHouse, {"house": -VAST}),
                (("rename", 0, "oak"), BadNames, {"row": ("oak", "oak")}),
                (("rename", 1, "x y"), BadNames, {"row": ("mill", "x y")})):
            self.stays(desk, error, desk.make, edit, **more)
            self.stays(desk, error, desk.make, listed(edit), **more)
        # The undone entry is still there.
        desk.redo()
        self.assertRow(desk.hold, ((1, 0),))
        self.stays(desk, NotHeld, desk.make, ("release", 0), house=0)

    def test_edits_that_change_nothing(self):
        desk = Desk(NAMES, Web(COPIES), hold=((1, 0),))
        for state in all_states(2):
            desk.least(state)
        for edit in (("hold", 1, 0), ("table", 0, COPIES[0]), ("rename", 0, "mill")):
            desk.make(edit)
            self.assertDesk(desk, NAMES, COPIES, ((1, 0),))
            self.assertRow(desk.kept(), tuple(all_states(2)))
        self.assertEqual(len(desk.journal()), 3)
        desk.undo()
        desk.make_all(("rename", 0, "elm"), ("rename", 0, "mill"))
        self.assertRow(desk.journal()[2], (("rename", 0, "elm"), ("rename", 0, "mill")))
        self.assertRow(desk.names, NAMES)
        self.refused(NothingToRedo, desk.redo)


class MakeAllTest(DeskCase):
    def test_several_edits(self):
        desk = Desk(NAMES, Web(COPIES))
        self.assertIsNone(desk.make_all(("hold", 0, 1), ["hold", 0, 0], ("rename", 0, "elm"),
                                        ("rename", 1, "mill"), ("table", 0, listed(TURN))))
        self.assertDesk(desk, ("elm", "mill"), (TURN, COPIES[1]), ((0, 0),))
        self.assertRow(desk.journal(), ((("hold", 0, 1), ("hold", 0, 0), ("rename", 0, "elm"),
                                         ("rename", 1, "mill"), ("table", 0, TURN)),))
        desk.undo()
        self.assertDesk(desk, NAMES, COPIES, ())

    def test_an_edit_that_fails(self):
        right = [("hold", 0, 1), ("release", 0), ("rename", 1, "elm"), ("table", 1, TURN)]
        wrong = [(("paint",), BadEdit, {"kind": "paint"}), (("hold", -1, 1), BadHouse, {"house": -1}),
                 (("hold", 1, 2), BadDigit, {"digit": 2}),
                 (("table", 0, ("bits", (), ())), BadTable, {"part": "kind"}),
                 (("release", 1), NotHeld, {"house": 1}),
                 (("rename", 1, "mill"), BadNames, {"row": ("mill", "mill")})]
        for place in range(5):
            for edit, error, more in wrong:
                desk = Desk(NAMES, Web(OPPOSITES))
                desk.make(("hold", 1, 1))
                desk.make(("release", 1))
                desk.make(("rename", 1, "fir"))
                desk.undo()
                for state in all_states(2):
                    desk.least(state)
                edits = right[:place] + [edit] + right[place:]
                # Edits that fail behind this one do not matter.
                fault = self.stays(desk, EditFailed, desk.make_all, *edits, ("paint",), place=place)
                self.assertIs(fault.__cause__.__class__, error)
                self.assertEqual(vars(fault.__cause__), more)
                desk.redo()
                self.assertRow(desk.names, ("mill", "fir"))

    def test_an_edit_that_fails_by_the_ones_before_it(self):
        desk = Desk(NAMES, Web(COPIES), hold=((0, 1),))
        fault = self.stays(desk, EditFailed, desk.make_all, ("release", 0), ("release", 0), place=1)
        self.assertEqual((fault.__cause__.__class__, fault.__cause__.house), (NotHeld, 0))
        fault = self.stays(desk, EditFailed, desk.make_all, ("rename", 0, "elm"),
                           ("rename", 1, "elm"), place=1)
        self.assertEqual(fault.__cause__.row, ("elm", "elm"))
        desk.make_all(("rename", 0, "elm"), ("rename", 1, "mill"), ("release", 0))
        self.assertDesk(desk, ("elm", "mill"), COPIES, ())

    def test_without_edits(self):
        desk = Desk(NAMES, Web(COPIES))
        self.assertIsNone(desk.make_all())
        self.assertRow(desk.journal(), ())
        desk.make(("hold", 0, 1))
        desk.undo()
        before = shown(desk)
        self.assertIsNone(desk.make_all())
        self.assertEqual(shown(desk), before)
        # The undone entry is not discarded.
        desk.redo()
        self.assertRow(desk.hold, ((0, 1),))


class JournalTest(DeskCase):
    def test_undo_and_redo(self):
        desk = Desk(NAMES, Web(COPIES))
        self.stays(desk, NothingToUndo, desk.undo)
        self.stays(desk, NothingToRedo, desk.redo)
        entries = [(("hold", 0, 1),), (("hold", 0, 0), ("rename", 0, "elm")),
                   (("release", 0), ("table", 0, TURN), ("hold", 1, 1))]
        seen = [shown(desk)]
        for entry in entries:
            desk.make_all(*entry)
            seen.append(shown(desk))
        self.assertRow(desk.journal(), tuple(entries))
        for count in (2, 1, 0):
            self.assertIsNone(desk.undo())
            self.assertEqual(shown(desk), seen[count])
        self.stays(desk, NothingToUndo, desk.undo)
        for count in (1, 2, 3):
            self.assertIsNone(desk.redo())
            self.assertEqual(shown(desk), seen[count])
        self.stays(desk, NothingToRedo, desk.redo)
        # Redo discards no undone entry.
        desk.undo()
        desk.undo()
        desk.redo()
        desk.undo()
        desk.redo()
        desk.redo()
        self.assertEqual(shown(desk), seen[3])

    def test_an_entry_behind_an_undo(self):
        desk = Desk(NAMES, Web(COPIES))
        desk.make(("hold", 0, 1))
        desk.make(("hold", 1, 1))
        desk.undo()
        desk.make(("rename", 0, "elm"))
        self.stays(desk, NothingToRedo, desk.redo)
        self.assertDesk(desk, ("elm", "oak"), COPIES, ((0, 1),))
        self.assertRow(desk.journal(), ((("hold", 0, 1),), (("rename", 0, "elm"),)))
        desk.undo()
        desk.undo()
        desk.make_all(("hold", 1, 0), ("release", 1))
        self.stays(desk, NothingToRedo, desk.redo)
        self.assertDesk(desk, NAMES, COPIES, ())
        # An entry that changes nothing discards them, too; one that fails does not.
        desk.undo()
        self.stays(desk, BadEdit, desk.make, ("paint", 0))
        self.stays(desk, EditFailed, desk.make_all, ("hold", 0, 1), ("paint", 0), place=1)
        desk.redo()
        desk.undo()
        desk.make(("rename", 0, "mill"))
        self.stays(desk, NothingToRedo, desk.redo)


class KeptTest(DeskCase):
    def test_least_rooms(self):
        desk = Desk(NAMES, Web(COPIES))
        self.assertRow(desk.least([0, 1]), (2, 2))
        self.assertRow(desk.kept(), ((0, 1),))
        self.assertRow(desk.least((0, 0)), (0, 0))
        self.assertRow(desk.least((0, 1)), (2, 2))
        self.assertRow(desk.kept(), ((0, 0), (0, 1)))
        # The state is taken as it is, whatever digits its held lamps have.
        desk.make(("hold", 0, 1))
        self.assertRow(desk.least((0, 0)), (2, 2))
        self.assertRow(desk.least((1, 0)), (1, 2))

    def test_after_each_kind_of_edit(self):
        # Houses 0 and 1 copy each other, and house 2 keeps its lamp.
        rows = COPIES + (("rows", (2,), (0, 1)),)
        for edit, kept in (
                (("rename", 0, "elm"), all_states(3)),
                # House 0 has the digit 1 where lamp 1 is on already.
                (("hold", 0, 1), [(1, 1, 0), (1, 1, 1)]),
                (("hold", 1, 0), [(0, 0, 0), (0, 0, 1)]),
                (("hold", 2, 1), [(0, 0, 1), (0, 1, 1), (1, 0, 1), (1, 1, 1)]),
                (("table", 2, ("rows", (2,), (0, 0))),
                 [(0, 0, 0), (0, 1, 0), (1, 0, 0), (1, 1, 0)]),
                (("table", 0, ("rows", (0, 1), (0, 1, 1, 1))),
                 [(0, 0, 0), (0, 0, 1), (1, 1, 0), (1, 1, 1)]),
                (("table", 0, ("terms", ((1, 1),), ((1,),))), all_states(3)),
                (("table", 0, ("rows", (), (0,))), [(0, 0, 0), (0, 0, 1)])):
            desk = Desk(("a", "b", "c"), Web(rows))
            for state in all_states(3):
                desk.least(state)
            desk.make(edit)
            self.assertRow(desk.kept(), tuple(kept))
            # Rooms that are gone do not come back with an undo.
            desk.undo()
            self.assertRow(desk.kept(), tuple(kept))
            for state in all_states(3):
                desk.least(state)
            desk.redo()
            self.assertRow(desk.kept(), tuple(kept))

    def test_a_table_of_a_held_house(self):
        desk = Desk(NAMES, Web(COPIES), hold=((0, 1),))
        for state in all_states(2):
            desk.least(state)
        # The held web does not change.
        desk.make(("table", 0, TURN))
        self.assertRow(desk.kept(), tuple(all_states(2)))
        desk.make(("release", 0))
        self.assertRow(desk.kept(), ())

    def test_one_of_several_edits(self):
        # The two edits together change nothing, but the first one does.
        for last in (0, 1):
            desk = Desk(NAMES, Web(COPIES))
            for state in all_states(2):
                desk.least(state)
            desk.make_all(("hold", 0, 1), ("release", 0))
            self.assertRow(desk.kept(), ((1, 1),))
            for state in all_states(2):
                desk.least(state)
            if last:
                desk.undo()
                self.assertRow(desk.kept(), ((1, 1),))
                for state in all_states(2):
                    desk.least(state)
                desk.redo()
                self.assertRow(desk.kept(), ((1, 1),))


class ModelTest(DeskCase):
    def test_desks_and_their_model(self):
        rng = random.Random(212)
        self.found = []
        for size in (1, 2, 3, 5):
            for web in some_webs(size, 8, seed=213):
                desk, model = Desk(TWELVE[:size], web), Model(TWELVE[:size], web)
                for _ in range(100):
                    for state in rng.sample(all_states(size), rng.randint(0, 2)):
                        self.assertRow(desk.least(state), model.least(state))
                    before = len(model.kept)
                    self.found.append(self.change(rng, desk, model))
                    self.found += ["lost"] * (before - len(model.kept))
                    names, web, hold = model.now
                    self.assertDesk(desk, names, web.rows(), hold)
                    self.assertRow(desk.journal(), tuple(entry[0] for entry in model.past))
                    self.assertRow(desk.kept(), tuple(sorted(model.kept)))
                    for state in model.kept:
                        self.assertRow(desk.twin().least(state), model.kept[state])
        for kind in ("undo", "redo", "no undo", "no redo", "made", "failed", "lost"):
            self.assertGreater(self.found.count(kind), 20)

    def change(self, rng, desk, model):
        """Does the same to both, and returns what it was."""
        kind = rng.randint(0, 5)
        if kind == 0:
            if not model.past:
                self.stays(desk, NothingToUndo, desk.undo)
                return "no undo"
            model.undo()
            self.assertIsNone(desk.undo())
            return "undo"
        if kind == 1:
            if not model.future:
                self.stays(desk, NothingToRedo, desk.redo)
                return "no redo"
            model.redo()
            self.assertIsNone(desk.redo())
            return "redo"
        edits = [some_edit(rng, len(desk.names)) for _ in range(kind - 2 or 1)]
        fault = model.make(edits)
        if kind == 2:
            call, args = desk.make, edits
        else:
            call, args = desk.make_all, edits
        if fault is None:
            self.assertIsNone(call(*args))
            return "made"
        place, error = fault
        if kind == 2:
            self.stays(desk, error.__class__, call, *args, **vars(error))
        else:
            cause = self.stays(desk, EditFailed, call, *args, place=place).__cause__
            self.assertEqual((cause.__class__, vars(cause)), (error.__class__, vars(error)))
        return "failed"


class AnswersTest(DeskCase):
    def test_fates(self):
        desk = Desk(NAMES, Web(OPPOSITES))
        self.assertRow(desk.fates_of([0, 0]), ((0, 1), (1, 0)))
        self.assertRow(desk.kept(), ((0, 0),))
        desk.make(("hold", 0, 1))
        # The state is taken as it is: lamp 0 is off, and the held house sets it.
        self.assertRow(desk.fates_of((0, 0)), ((1, 0),))
        for web in some_webs(3, 8, seed=214):
            desk = Desk(("a", "b", "c"), web, hold=((1, 0),))
            for state in all_states(3):
                self.assertRow(desk.fates_of(state), fates(desk.held, state))
                self.assertRow(desk.kept(), tuple(all_states(3)[:all_states(3).index(state) + 1]))

    def test_too_many_fates(self):
        for size in (7, 12):
            desk = Desk(TWELVE[:size], copies_behind(size, 7))
            state = (0,) * size
            self.refused(TooLarge, desk.fates_of, state, count=7, limit=6)
            # The room is kept all the same.
            self.assertRow(desk.kept(), (state,))
            self.assertRow(desk.least(state), (2,) * 7 + state[7:])
            self.refused(TooLarge, desk.fates_of, list(state), count=7, limit=6)
            self.stays(desk, TooLarge, desk.report, state, count=7, limit=6)
            desk.make(("hold", 6, 0))
            self.assertRow(desk.fates_of(state), ((2,) * 6 + state[6:],))

    def test_explain(self):
        for web in some_webs(3, 8, seed=215):
            desk = Desk(("a", "b", "c"), web, hold=((2, 1),))
            for start in all_states(3)[::2]:
                for goal in all_states(3):
                    found = self.unchanged(desk.explain, start, goal)
                    self.assertRow(found, verdict(desk.held, start, goal, top=2))
            self.assertRow(desk.kept(), ())

    def test_arguments(self):
        for web in (Web(COPIES), copies_behind(12, 12)):
            desk = Desk(TWELVE[:web.size], web)
            states = bad_states(web.size)
            for name in ("least", "fates_of", "report"):
                for state in states:
                    call = getattr(desk, name)
                    self.stays(desk, BadState, call, state, row=state)
                    self.stays(desk, BadState, call, list(state), row=state)
            state = (0,) * web.size
            self.checked(lambda start, goal: desk.explain(start, goal), [state, state],
                         (0, BadState, "row", states), (1, BadState, "row", states[::-1]))
            self.assertRow(desk.kept(), ())


class ReportTest(DeskCase):
    def test_letter_by_letter(self):
        web = Web(OPPOSITES + (("rows", (2,), (1, 0)), ("rows", (0,), (0, 1))))
        desk = Desk(("mill", "a", "eightlet", "oak"), web)
        self.assertEqual(self.unchanged(desk.report, (0, 0, 1, 0)), "\n".join((
            "house    lamp held  off   on free",
            "mill        0    -    1    1    0",
            "a           0    -    1    1    0",
            "eightlet    1    -    0    0    2",
            "oak         0    -    1    1    0",
            "fates 2")))
        desk.make_all(("hold", 0, 1), ("hold", 2, 0))
        self.assertEqual(desk.report([0, 0, 1, 0]), "\n".join((
            "house    lamp held  off   on free",
            "mill        0    1    0    1    0",
            "a           0    -    1    0    0",
            "eightlet    1    0    1    0    0",
            "oak         0    -    0    1    0",
            "fates 1")))
        self.assertRow(desk.kept(), ())

    def test_many_fates(self):
        # The houses 4 and 5 settle in one of two ways, and the others turn until then.
        rows = [("rows", (house, 4, 5), (1, 0, 0, 1, 0, 1, 1, 0)) for house in range(4)]
        web = Web(rows + [("rows", (5,), (1, 0)), ("rows", (4,), (1, 0))])
        desk = Desk(TWELVE[:6], web)
        self.assertEqual(desk.report((0,) * 6), "\n".join(
            ["house    lamp held  off   on free"] + [
                name + "           0    -   16   16    0" for name in "abcdef"] + ["fates 32"]))

    def test_against_the_lamp_fates(self):
        for size in (1, 3, 5):
            for web in some_webs(size, 6, seed=216):
                desk = Desk(TWELVE[:size], web, hold=((size - 1, 1),))
                for state in all_states(size)[::3]:
                    counts = lamp_fates(desk.held, state)
                    lines = desk.report(state).split("\n")
                    self.assertEqual(lines[0].split(), ["house", "lamp", "held", "off", "on", "free"])
                    self.assertEqual(lines[-1], "fates " + str(sum(counts[0])))
                    self.assertEqual(len(lines), size + 2)
                    for house in range(size):
                        line = lines[house + 1]
                        words = [TWELVE[house], str(state[house]),
                                 "1" if house == size - 1 else "-"] + list(map(str, counts[house]))
                        self.assertEqual(line.split(), words)
                        self.assertEqual([len(line), line.rstrip()], [33, line])


class TextTest(DeskCase):
    def test_the_text_of_a_desk(self):
        desk = Desk(NAMES, Web((COPIES[0], ("terms", ((0, 1), (1, -1)), ((0,), (1,))))))
        text = "web 2\nmill rows oak : 01\noak terms mill !oak : mill oak\nholds"
        self.assertEqual(desk.save(), text)
        desk.make(("hold", 1, 0))
        # The free web is written, also where a house is held.
        self.assertEqual(desk.save(), text + " oak=0")
        desk.make(("hold", 0, 1))
        self.assertEqual(desk.save(), text + " mill=1 oak=0")
        again = Desk.read(desk.save())
        self.assertIs(again.__class__, Desk)
        self.assertDesk(again, NAMES, desk.web.rows(), ((0, 1), (1, 0)))
        self.assertRow((again.journal(), again.kept()), ((), ()))
        self.refused(NothingToUndo, again.undo)
        self.refused(NothingToRedo, again.redo)

    def test_there_and_back(self):
        rng = random.Random(217)
        for size in (1, 2, 5, 12):
            for web in some_webs(size, 8, seed=218):
                hold = tuple((house, rng.randint(0, 1)) for house in range(size)
                             if rng.randint(0, 1))
                desk = Desk(TWELVE[:size], web, hold=hold)
                desk.least((0,) * size)
                text = desk.save()
                self.assertEqual(text, format_web(TWELVE[:size], web) + "\n" + " ".join(
                    ["holds"] + [TWELVE[house] + "=" + str(digit) for house, digit in hold]))
                again = Desk.read(text)
                self.assertDesk(again, TWELVE[:size], web.rows(), hold)
                self.assertEqual(again.save(), text)
                self.assertRow(again.kept(), ())

    def wrong(self, text, line, word):
        self.refused(BadText, Desk.read, text, line=line, word=word)

    def test_faults_in_the_last_line(self):
        web = "web 2\nmill rows oak : 01\noak rows mill : 01\n"
        for last, word in (
                ("", 0), ("hold", 0), ("Holds", 0), (" holds", 0), ("holds ", 1), ("holds  oak=1", 1),
                ("holds mill", 1), ("holds mill=", 1), ("holds mill=2", 1), ("holds mill=01", 1),
                ("holds mill=-", 1), ("holds =1", 1), ("holds elm=1", 1), ("holds mill=1=0", 1),
                ("holds mill==1", 1), ("holds mill:1", 1), ("holds !mill=1", 1), ("holds mill =1", 1),
                ("holds oak=1 mill=1", 2), ("holds oak=1 oak=1", 2), ("holds mill=0 mill=1", 2),
                ("holds mill=1 oak=0 oak=1", 3), ("holds mill=1 oak", 2), ("holds mill=1 oak=0 ", 3),
                ("holds mill=1 ", 2), ("hold mill=9", 0), ("web", 0), ("holds mill=1 elm=1 oak=9", 2)):
            self.wrong(web + last, 4, word)
        self.assertRow(Desk.read(web + "holds mill=1").hold, ((0, 1),))
        self.assertRow(Desk.read(web + "holds oak=0").hold, ((1, 0),))
        twelve = format_web(TWELVE, copying_web(12)) + "\nholds"
        self.wrong(twelve + " a=1 l=0 m=1", 14, 3)
        self.assertRow(Desk.read(twelve + " a=1 l=0").hold, ((0, 1), (11, 0)))

    def test_faults_in_the_part_of_the_web(self):
        for text, line, word in (
                ("", 1, 0), ("web 2", 1, 0), ("holds", 1, 0), ("\n", 1, 0), ("\nholds", 1, 0),
                ("web 1\nholds", 2, 0), ("web\nholds", 1, 1), ("web 0\nholds", 1, 1),
                ("web 13\nholds", 1, 1), ("web 1 \noak rows : 1\nholds", 1, 2),
                # Without the line of the hold the last house is taken for it.
                ("web 1\noak rows : 1", 2, 0), ("web 2\noak rows : 1\nelm rows : 1", 3, 0),
                ("web 1\noak rows : 1\nholds\n", 3, 0), ("web 1\noak rows : 1\n\nholds", 3, 0),
                ("web 1\nholds\noak rows : 1", 2, 1),
                ("web 1\nOak rows : 1\nholds", 2, 0), ("web 1\noak row : 1\nholds", 2, 1),
                ("web 1\noak rows : 2\nholds", 2, 3), ("web 1\noak rows : 1 \nholds", 2, 4),
                ("web 2\noak rows : 1\noak rows : 1\nholds", 3, 0),
                ("web 1\noak rows elm : 1\nholds", 2, 2),
                ("web 1\noak terms oak : *  \nholds", 2, 5),
                # The part of the web comes first.
                ("web 1\noak rows : 2\nhold oak=9", 2, 3)):
            self.wrong(text, line, word)
        self.wrong("web 1\noak rows : 1\n", 3, 0)
        self.assertRow(Desk.read("web 1\noak rows : 1\nholds").names, ("oak",))


class TwinTest(DeskCase):
    def test_a_twin(self):
        desk = Desk(NAMES, Web(COPIES), hold=((0, 1),))
        desk.make(("hold", 1, 0))
        desk.make(("rename", 0, "elm"))
        desk.undo()
        desk.least((0, 0))
        twin = desk.twin()
        self.assertIs(twin.__class__, Desk)
        self.assertDesk(twin, NAMES, COPIES, ((0, 1), (1, 0)))
        self.assertRow((twin.journal(), twin.kept()), ((), ()))
        self.refused(NothingToUndo, twin.undo)
        self.refused(NothingToRedo, twin.redo)
        # What is done to one of the two does not change the other one.
        before = shown(desk)
        twin.make_all(("release", 0), ("table", 1, TURN), ("rename", 1, "fir"))
        twin.least((1, 1))
        self.assertEqual(shown(desk), before)
        self.assertDesk(twin, ("mill", "fir"), (COPIES[0], TURN), ((1, 0),))
        before = shown(twin)
        desk.redo()
        desk.undo()
        desk.undo()
        desk.make(("table", 0, TURN))
        desk.fates_of((0, 1))
        self.assertEqual(shown(twin), before)
        twin.undo()
        self.assertDesk(twin, NAMES, COPIES, ((0, 1), (1, 0)))
        self.assertDesk(desk, NAMES, (TURN, COPIES[1]), ((0, 1),))
