"""The whole program: what one part returns, led through the others, in small webs."""

import random

from oldnews.asking import best_question
from oldnews.blocks import blocks_for, hearing_tags, sweep
from oldnews.desk import Desk
from oldnews.fates import fates, lamp_fates
from oldnews.fatesearch import fates_by_search
from oldnews.fineruns import fine_states
from oldnews.fits import fit_count, fits
from oldnews.hearings import lean_web, same_tables
from oldnews.holds import held_row, held_web
from oldnews.leading import news_from_fine
from oldnews.leastholds import least_holds, why_not
from oldnews.minimal import minimal_rooms
from oldnews.newsearch import reached_by_news
from oldnews.ordering import reordered_row, reordered_web
from oldnews.piecewise import fates_by_pieces, minimal_by_pieces
from oldnews.reaching import reaches
from oldnews.reading import read_web
from oldnews.records import Record, sightings_of
from oldnews.refusing import is_refusal
from oldnews.runs import run_states
from oldnews.rows import states_of
from oldnews.showing import all_show
from oldnews.signed import as_signs, signs_of
from oldnews.surely import digit_certainty, inner_room, outer_room
from oldnews.turning import turned_row, turned_web
from oldnews.turns import can_steer, held_fates
from oldnews.verdicts import is_verdict, verdict
from oldnews.writing import format_web
from tests.support import Case, all_states, both_webs, inside, sticky_webs
from tests.test_edits import TWELVE


class DeskTest(Case):
    def test_a_desk_and_the_functions_in_its_held_web(self):
        rng = random.Random(220)
        for size in (2, 3, 4):
            for web in both_webs(size, 4, seed=221):
                desk = Desk(TWELVE[:size], web)
                desk.make_all(("hold", size - 1, 1), ("rename", 0, "elm"))
                held = held_web(desk.web, desk.hold)
                self.assertRow(held.rows(), desk.held.rows())
                start = rng.choice(all_states(size))
                states = reached_by_news(held, start)
                for goal in all_states(size):
                    found = desk.explain(start, goal)
                    self.assertTruth(is_verdict(held, start, goal, found), True)
                    self.assertTruth(goal in states, found[0] == "reached")
                    if found[0] == "reached":
                        self.assertRow(run_states(held, start, found[2])[-1], goal)
                        run = news_from_fine(held, 2, start, found[3])
                        self.assertRow(run_states(held, start, run)[-1], goal)
                    else:
                        self.assertTruth(is_refusal(held, start, goal, found[1]), True)
                self.assertRow(desk.fates_of(start), fates(held, start))
                self.assertRow(tuple(states_of(end) for end in desk.fates_of(start)),
                               fates_by_search(held, start))
                self.assertRow(desk.fates_of(start), fates_by_pieces(held, start))
                lines = desk.report(start).split("\n")
                for line, counts in zip(lines[1:], lamp_fates(held, start)):
                    self.assertEqual(line.split()[3:], list(map(str, counts)))
                # A held start has the ends under the hold as its fates.
                start = held_row(start, desk.hold)
                self.assertRow(desk.fates_of(start), held_fates(web, start, desk.hold))

    def test_a_desk_and_texts(self):
        for web in both_webs(3, 6, seed=222):
            desk = Desk(("mill", "oak", "elm"), web, hold=((1, 0),))
            names, read = read_web(desk.save().rpartition("\n")[0])
            self.assertRow((names, read.rows()), (desk.names, web.rows()))
            self.assertEqual(Desk.read(format_web(names, read) + "\nholds oak=0").save(), desk.save())


class HoldsTest(Case):
    def test_least_holds_on_a_desk(self):
        rng = random.Random(223)
        held = 0
        for web in sticky_webs(3, 25, seed=224):
            start = rng.choice(all_states(3))
            end = rng.choice(minimal_rooms(web))
            shown = tuple((house, mark) for house, mark in enumerate(end) if mark != 2)[:1]
            for hold in least_holds(web, shown, start=start):
                desk = Desk(("a", "b", "c"), web)
                desk.make_all(*[("hold", house, digit) for house, digit in hold])
                self.assertRow(desk.hold, hold)
                self.assertTruth(all_show(web, hold, shown, start=start), True)
                for fate in desk.fates_of(held_row(start, hold)):
                    self.assertTrue(all(fate[house] == digit for house, digit in shown))
                # Without one of the pairs some end does not show it.
                for place, failing in enumerate(why_not(web, shown, hold, start=start)):
                    desk.make(("release", hold[place][0]))
                    self.assertIn(failing, desk.fates_of(held_row(start, desk.hold)))
                    desk.undo()
                held += len(hold)
        self.assertGreater(held, 10)

    def test_steering_by_a_desk(self):
        for web in sticky_webs(3, 6, seed=225):
            for end in minimal_rooms(web):
                hold = tuple((house, mark) for house, mark in enumerate(end) if mark != 2)
                for start in all_states(3):
                    if 2 not in end:
                        self.assertTruth(can_steer(web, start, end, hold), True)
                    desk = Desk(("a", "b", "c"), web, hold=hold)
                    ends = desk.fates_of(held_row(start, hold))
                    desk.make_all(*[("release", house) for house, _ in hold])
                    for state in states_of(ends[0]):
                        self.assertRow(desk.fates_of(state), fates(web, state))


class LearningTest(Case):
    def test_asking_until_the_web_is_known(self):
        for web in both_webs(3, 10, seed=226):
            signs = as_signs(signs_of(web))
            record = Record(signs)
            state = (0, 1, 0)
            for after in (web.image(state), web.image(web.image(state))):
                record.see_beat(state, after)
                state = after
            self.assertRow(record.sightings(), sightings_of(
                ((0, 1, 0), web.image((0, 1, 0)), web.image(web.image((0, 1, 0))))))
            counts = [fit_count(signs, record.sightings())]
            question = best_question(signs, record.sightings())
            while question is not None:
                house, digits = question
                lamps = dict(zip((heard for heard, _ in signs[house]), digits))
                asked = tuple(lamps.get(other, 0) for other in range(3))
                self.assertEqual(digit_certainty(signs, record.sightings(), house, asked),
                                 "possibly")
                record.see(house, asked, web.value(house, asked))
                counts.append(fit_count(signs, record.sightings()))
                question = best_question(signs, record.sightings())
            # Each answer leaves fewer webs, and in the end the web alone is left.
            self.assertEqual(counts, sorted(set(counts), reverse=True))
            found = list(fits(signs, record.sightings()))
            self.assertEqual(len(found), 1)
            self.assertTruth(same_tables(found[0], web), True)
            self.assertRow(found[0].rows(), lean_web(web).rows())
            for start in all_states(3):
                self.assertRow(inner_room(signs, list(record), start),
                               outer_room(signs, record.sightings(), start))

    def test_what_is_seen_narrows_the_rooms(self):
        rng = random.Random(227)
        for web in both_webs(3, 10, seed=228):
            signs, record, start = signs_of(web), Record(signs_of(web)), (1, 0, 1)
            rooms = (start, (2, 2, 2))
            for _ in range(8):
                state = rng.choice(all_states(3))
                record.see_beat(state, web.image(state))
                seen = record.sightings()
                new = (inner_room(signs, seen, start), outer_room(signs, seen, start))
                self.assertTrue(inside(rooms[0], new[0]) and inside(new[1], rooms[1]))
                rooms = new


class OtherNumbersTest(Case):
    def test_turned_and_reordered(self):
        rng = random.Random(229)
        for web in both_webs(4, 4, seed=230):
            order = tuple(rng.sample(range(4), 4))
            other = reordered_web(order, turned_web(web, (1, 2)))

            def renamed(row):
                return reordered_row(order, turned_row(row, (1, 2)))

            ends = minimal_by_pieces(web)
            self.assertRow(minimal_by_pieces(other), tuple(sorted(map(renamed, ends))))
            blocks = (3, 1, 1, 0)
            signs = signs_of(web)
            least = blocks_for(signs, hearing_tags(signs, blocks))
            for start in all_states(4)[::3]:
                self.assertRow(renamed(sweep(web, start, blocks)),
                               sweep(other, renamed(start), [blocks[house] for house in order]))
                self.assertRow(sweep(web, start, least), sweep(web, start, blocks))
                for goal in all_states(4)[::4]:
                    truth = reaches(web, start, goal)
                    found = verdict(other, renamed(start), renamed(goal), top=3)
                    self.assertTruth(found[0] == "reached", truth)
                    if truth:
                        levels = fine_states(other, 3, renamed(start), found[3])[-1]
                        self.assertRow(levels, tuple(3 * digit for digit in renamed(goal)))
