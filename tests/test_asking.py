"""Points 111 and 112: open questions, and the best one."""

from oldnews.asking import best_question, open_questions
from oldnews.errors import Quarrel, TooLarge
from tests.support import Case, all_states, digit_at, fits_by_states, some_signs
from tests.test_fits import QUARREL, SIGNS, small_cases


def questions_by_hand(signs, webs):
    """The open questions with their two numbers, found in all webs that fit."""
    found = []
    for house, hearings in enumerate(signs):
        for digits in all_states(len(hearings)):
            lamps = dict(zip((heard for heard, _ in hearings), digits))
            told = [digit_at(rows[house], lamps) for rows in webs]
            if 0 in told and 1 in told:
                found.append(((house, digits), told.count(0), told.count(1)))
    return found


class AskingTest(Case):
    def test_the_example_of_point_112(self):
        signs = (((0, 1),),)
        self.assertRow(self.unchanged(open_questions, signs, ()), ((0, (0,)), (0, (1,))))
        self.assertRow(self.unchanged(best_question, signs, ()), (0, (0,)))

    def test_examples(self):
        seen = ((0, (0, 0), 1), (1, (0, 0), 0))
        self.assertRow(self.unchanged(open_questions, SIGNS, seen),
                       ((0, (0, 1)), (0, (1, 1)), (1, (1,))))
        # Three tables of house 0 are left, and two of house 1.
        self.assertRow(best_question(SIGNS, seen), (1, (1,)))
        # A house without hearings is asked with the empty row.
        self.assertRow(open_questions(((),), ()), ((0, ()),))
        self.assertRow(best_question(((),), ()), (0, ()))

    def test_no_open_question(self):
        for signs, seen in ((((),), ((0, (1,), 0),)), (((), ()), ((0, (0, 1), 1), (1, (0, 0), 0))),
                            ((((0, 1),),), ((0, (0,), 1),)),
                            ((((0, -1),),), [[0, [1], 1]])):
            self.assertRow(open_questions(signs, seen), ())
            self.assertIsNone(best_question(signs, seen))

    def test_against_all_webs(self):
        counts, best_places = set(), set()
        for signs, seen in small_cases(180) + [(signs, ()) for signs in some_signs(1, 2, seed=181)]:
            webs = fits_by_states(signs, seen)
            if len(webs) > 1000:
                continue
            found = questions_by_hand(signs, webs)
            counts.add(len(found))
            self.assertRow(self.unchanged(open_questions, signs, seen),
                           tuple(question for question, _, _ in found))
            greater = [max(off, on) for _, off, on in found]
            wanted = found[greater.index(min(greater))][0] if found else None
            self.assertRow(self.unchanged(best_question, signs, seen), wanted)
            best_places.add(greater.index(min(greater)) if found else None)
        self.assertLessEqual({0, 1, 2, 3, 4}, counts)
        self.assertLessEqual({None, 0, 1, 2}, best_places)

    def test_three_and_four_hearings(self):
        three = tuple((house, 1) for house in range(3))
        four = tuple((house, 1) for house in range(4))
        signs = (three,) + ((),) * 3
        self.assertEqual(len(open_questions(signs, ())), 11)
        self.assertRow(best_question((three,) * 12, ()), (0, (0, 0, 1)))
        for signs in ((four,) * 4, (three, (), four, three)):
            for call in (open_questions, best_question):
                self.refused(TooLarge, call, signs, (), count=4, limit=3)
                seen = ((1, (0,) * 4, 0), (1, (0,) * 4, 1))
                self.refused(TooLarge, call, signs, seen, count=4, limit=3)

    def test_arguments(self):
        for call in (open_questions, best_question):
            self.checked_seen(call, [SIGNS, ()])
            self.quarrel_at_last(call, [SIGNS, QUARREL])
            self.checked_seen(call, [(tuple((house, 0) for house in range(4)),) * 4, ()])
            self.refused(Quarrel, call, ((),) * 12, ((3, (0,) * 12, 1), (3, (1,) * 12, 0)),
                         first=0, second=1)
