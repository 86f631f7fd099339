"""The interface: names, arguments, classes of errors, and where each is defined."""

import importlib
import inspect

from oldnews import errors
from oldnews.tables import RowsTable, Table, TermsTable
from oldnews.webs import Web
from tests.support import Case

FUNCTIONS = {
    "rows": ["free_houses(room)", "states_of(room)", "lies_within(room, other)",
             "meet(first, *others)", "join(first, *others)"],
    "tables": ["table_of(row, size)"],
    "hearings": ["used_hearings(web, house)", "table_as_rows(web, house)",
                 "table_as_terms(web, house)", "lean_web(web)", "same_tables(web, other)"],
    "turning": ["turned_row(row, group)", "turned_web(web, group)"],
    "ordering": ["inverse_order(order)", "reordered_row(order, row)",
                 "reordered_group(order, group)", "reordered_web(order, web)"],
    "joining": ["beside(*webs)"],
    "writing": ["format_web(names, web)"],
    "reading": ["read_web(text)"],
    "closing": ["loose_houses(web, room, *, group=None)", "is_closed(web, room, *, group=None)"],
    "leasts": ["least_room(web, room, *, group=None)",
               "freeing_order(web, room, *, group=None, order=None)"],
    "minimal": ["minimal_rooms(web)", "minimal_inside(web, room)", "is_minimal(web, room)"],
    "roomlists": ["closed_rooms(web)", "closed_about(web, room)", "closed_inside(web, room)",
                  "room_counts(web)"],
    "resting": ["rests(web)", "image_room(web, room)"],
    "looks": ["read_digits(web, states, look)", "window_room(states, age)"],
    "runs": ["run_states(web, start, run)", "eldest_age(run)", "changed_houses(states)"],
    "plainruns": ["plain_run(web, groups)", "plain_states(web, start, groups)",
                  "plain_round(web, start, groups)"],
    "newsearch": ["reached_by_news(web, start)"],
    "agesearch": ["reached_by_age(web, start, age)", "fewest_beats(web, start, goal, age)",
                  "youngest_age(web, start, goal)"],
    "serving": ["serves(web, start, goal, group)", "run_by_group(web, start, goal, group)"],
    "striking": ["strikes(web, start, goal)", "last_room(web, start, goal)",
                 "strike_in_order(web, start, goal, order)"],
    "reaching": ["reaches(web, start, goal)", "reached(web, start)",
                 "reach_run(web, start, goal)"],
    "refusing": ["refusal(web, start, goal)", "is_refusal(web, start, goal, claim)"],
    "moving": ["reaches_within(web, start, goal, group)", "must_move(web, start, goal)",
               "fewest_movers(web, start, goal)"],
    "levels": ["corner(top, state)", "reading_room(top, levels)", "corner_state(top, levels)"],
    "fineruns": ["fine_states(web, top, start, run)"],
    "finesearch": ["fine_reached(web, top, start)", "fine_reached_singly(web, top, start)",
                   "fine_lots(web, top)"],
    "leading": ["fine_run_by_group(web, top, start, goal, group)",
                "fine_from_news(web, top, start, run)", "news_from_fine(web, top, start, run)"],
    "endings": ["end_of(web, state)", "end_states(web)"],
    "endsearch": ["closed_lots(web)", "slow_lots(web)"],
    "fates": ["fates(web, start)", "is_decided(web, start)", "lamp_fates(web, start)",
              "fates_of_all(web)"],
    "doors": ["doors(web, state)", "safe_steps(web, state)", "is_last_chance(web, state, end)"],
    "wishes": ["is_wish_sure(web, start, wish)", "is_wish_possible(web, start, wish)",
               "wish_ends(web, wish)"],
    "fatesearch": ["fates_by_search(web, start)", "wish_sure_by_search(web, start, wish)",
                   "wish_possible_by_search(web, start, wish)"],
    "meeting": ["can_meet(web, state, other)", "telling_groups(web, start)"],
    "hearers": ["heard_by(web, house)", "is_upstream(web, group)", "pieces(web)"],
    "piecewebs": ["piece_web(web, group)", "rim(web, group)", "with_piece(web, group, piece)",
                  "part_of(row, group)", "put_back(row, group, part)"],
    "behind": ["closed_behind(web, room, group)", "minimal_behind(web, room, group)"],
    "piecewise": ["least_by_pieces(web, room)", "minimal_by_pieces(web)",
                  "fates_by_pieces(web, start)"],
    "holds": ["held_web(web, hold)", "held_row(row, hold)", "hold_of(room, group)",
              "shows(room, shown)"],
    "showing": ["failing_end(web, hold, shown, *, start=None)",
                "all_show(web, hold, shown, *, start=None)", "kept_ends(web, hold)"],
    "leastholds": ["holds_of(web, group, count)",
                   "least_holds(web, shown, *, start=None, group=None, most=2)",
                   "why_not(web, shown, hold, *, start=None)"],
    "turns": ["held_fates(web, start, hold)", "fates_after(web, start, *holds)",
              "can_steer(web, start, end, *holds)"],
    "signed": ["as_signs(signs)", "signs_of(web)", "keeps_signs(web, signs)"],
    "rings": ["rings(signs)", "ring_parities(signs, ring)", "rings_of(signs, parity)"],
    "ringwebs": ["ring_web(signs, ring, parity)"],
    "allwebs": ["tables_of(signs, house)", "web_count(signs)", "all_webs(signs)"],
    "cutting": ["meets_rings(signs, group, parity)", "least_cuts(signs, parity)",
                "most_ends(signs)"],
    "rising": ["turned_signs(signs, group)", "rising_group(signs)"],
    "blocks": ["sweep(web, state, blocks)", "hearing_tags(signs, blocks)",
               "same_sweeps(signs, blocks, other)", "parting(signs, blocks, other)",
               "blocks_for(signs, tags)"],
    "records": ["quarrels(signs, seen)", "sightings_of(states)"],
    "extremes": ["least_digit(signs, seen, house, state)",
                 "greatest_digit(signs, seen, house, state)", "extreme_web(signs, seen, group)"],
    "fits": ["fit_tables(signs, seen, house)", "fit_count(signs, seen)", "fits(signs, seen)"],
    "surely": ["rest_certainty(signs, seen, state)", "closed_certainty(signs, seen, room)",
               "digit_certainty(signs, seen, house, state)", "inner_room(signs, seen, start)",
               "outer_room(signs, seen, start)", "inner_fit(signs, seen, start)",
               "outer_fit(signs, seen, start)", "is_surely_minimal(signs, seen, room)"],
    "asking": ["open_questions(signs, seen)", "best_question(signs, seen)"],
    "verdicts": ["verdict(web, start, goal, *, top=2)",
                 "is_verdict(web, start, goal, claim, *, top=2)"],
    "edits": ["edited(names, web, hold, edit)", "agree_on(web, other, room)"],
}

METHODS = {
    ("tables", "RowsTable"): ["value(self, state)", "takes(self, room, digit)", "as_row(self)"],
    ("tables", "TermsTable"): ["value(self, state)", "takes(self, room, digit)", "as_row(self)"],
    ("webs", "Web"): ["__init__(self, rows)", "rows(self)", "hears(self, house)",
                      "value(self, house, state)", "takes(self, house, room, digit)",
                      "image(self, state)", "with_table(self, house, row)"],
    ("walks", "Walk"): ["__init__(self, web, start)", "advance(self, looks)", "states(self)",
                        "run(self)"],
    ("records", "Record"): ["__init__(self, signs)", "see(self, house, state, digit)",
                            "see_beat(self, state, after)", "forget(self)", "sightings(self)",
                            "__iter__(self)"],
    ("desk", "Desk"): ["__init__(self, names, web, *, hold=())", "make(self, edit)",
                       "make_all(self, *edits)", "undo(self)", "redo(self)", "journal(self)",
                       "least(self, state)", "kept(self)", "fates_of(self, state)",
                       "explain(self, start, goal)", "report(self, state)", "save(self)",
                       "twin(self)"],
}

PROPERTIES = {
    ("walks", "Walk"): ["state", "beats"],
    ("records", "Record"): ["many"],
    ("desk", "Desk"): ["names", "web", "hold", "held"],
}

ERRORS = {
    "BadArgument": ("OldNewsError", []),
    "BadHouse": ("BadArgument", ["house"]), "BadDigit": ("BadArgument", ["digit"]),
    "BadState": ("BadArgument", ["row"]), "BadRoom": ("BadArgument", ["row"]),
    "BadGroup": ("BadArgument", ["row"]), "BadOrder": ("BadArgument", ["row"]),
    "BadNames": ("BadArgument", ["row"]), "BadLevels": ("BadArgument", ["row"]),
    "BadHold": ("BadArgument", ["row"]), "BadRing": ("BadArgument", ["row"]),
    "BadAge": ("BadArgument", ["age"]), "BadTop": ("BadArgument", ["top"]),
    "BadEdit": ("BadArgument", ["kind"]),
    "BadTable": ("OldNewsError", ["part"]), "BadSize": ("OldNewsError", ["count"]),
    "BadWeb": ("OldNewsError", ["house", "part"]),
    "TooLarge": ("OldNewsError", ["count", "limit"]),
    "BadText": ("OldNewsError", ["line", "word"]),
    "NotSigned": ("OldNewsError", ["house", "heard"]),
    "BadRun": ("OldNewsError", ["beat", "place"]),
    "NotServing": ("OldNewsError", []), "NeverReached": ("OldNewsError", []),
    "IsReached": ("OldNewsError", []), "HearsOutside": ("OldNewsError", ["house"]),
    "BadSigns": ("OldNewsError", ["house"]), "BadSighting": ("OldNewsError", ["place"]),
    "Quarrel": ("OldNewsError", ["first", "second"]),
    "DeskError": ("OldNewsError", []),
    "NotHeld": ("DeskError", ["house"]), "NothingToUndo": ("DeskError", []),
    "NothingToRedo": ("DeskError", []), "EditFailed": ("DeskError", ["place"]),
}


class InterfaceTest(Case):
    def test_functions(self):
        for name, heads in FUNCTIONS.items():
            module = importlib.import_module("oldnews." + name)
            for head in heads:
                function = getattr(module, head.split("(")[0])
                self.assertTrue(inspect.isfunction(function), head)
                self.assertEqual(function.__module__, "oldnews." + name)
                self.assertEqual(function.__name__ + str(inspect.signature(function)), head)

    def test_methods_stand_in_their_class(self):
        for (name, kind), heads in METHODS.items():
            made = getattr(importlib.import_module("oldnews." + name), kind)
            self.assertEqual(made.__module__, "oldnews." + name)
            for head in heads:
                method = vars(made)[head.split("(")[0]]
                self.assertEqual(method.__name__ + str(inspect.signature(method)), head)

    def test_properties_stand_in_their_class(self):
        for (name, kind), properties in PROPERTIES.items():
            made = getattr(importlib.import_module("oldnews." + name), kind)
            for each in properties:
                self.assertIsInstance(vars(made)[each], property)

    def test_read_is_a_static_method(self):
        desk = importlib.import_module("oldnews.desk").Desk
        self.assertIsInstance(vars(desk)["read"], staticmethod)
        self.assertEqual(str(inspect.signature(desk.read)), "(text)")

    def test_tables_have_one_base(self):
        self.assertEqual(RowsTable.__bases__, (Table,))
        self.assertEqual(TermsTable.__bases__, (Table,))

    def test_most_is_a_class_value(self):
        self.assertEqual(vars(Web)["MOST"], 12)

    def test_errors(self):
        self.assertEqual(errors.OldNewsError.__bases__, (ValueError,))
        for name, (base, attributes) in ERRORS.items():
            made = getattr(errors, name)
            self.assertEqual(made.__module__, "oldnews.errors")
            self.assertEqual(made.__bases__, (getattr(errors, base),), name)
            values = list(range(10, 10 + len(attributes)))
            self.assertEqual(vars(made(*values)), dict(zip(attributes, values)))
