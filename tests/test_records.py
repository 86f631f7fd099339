"""Points 102 to 105: sightings, quarrels and records."""

import itertools
import random

from oldnews.errors import BadDigit, BadHouse, BadState, BadSighting, Quarrel
from oldnews.records import Record, quarrels, sightings_of
from tests.support import (
    BAD_SIGNS, VAST, Case, all_signs, all_states, any_sightings, bad_sightings, bad_states,
    below_by_hand, fits_by_states, listed, quarrels_by_hand, some_signs, true_sightings,
)

SIGNS = (((0, 1), (1, -1)), ((0, 0),))


class SightingsTest(Case):
    def test_items_that_do_not_fit(self):
        for size in (2, 12):
            signs = (((0, 1),),) + ((),) * (size - 1)
            good = (0, (0,) * size, 0)
            for wrong, error, name, value in bad_sightings(size):
                for place in (0, 1, 5):
                    # The first item in which something does not fit decides.
                    seen = (good,) * place + (wrong, (-1, (), 9))
                    for given in (seen, listed(seen), [tuple(item) for item in seen]):
                        fault = self.refused(BadSighting, quarrels, signs, given, place=place)
                        self.assertIs(fault.__cause__.__class__, error)
                        self.assertEqual(vars(fault.__cause__), {name: value})
                        self.assertFrozen(getattr(fault.__cause__, name))

    def test_after_the_signed_web(self):
        self.checked_seen(quarrels, [SIGNS, ()])

    def test_rows_of_lists(self):
        seen = [[0, [1, 0], 1], (0, [1, 1], 0), [0, (1, 0), 0]]
        self.assertRow(quarrels(listed(SIGNS), seen), ((0, 2),))


class QuarrelsTest(Case):
    def test_examples(self):
        # More of lamp 0 and less of lamp 1 can only switch house 0 on.
        self.assertRow(self.unchanged(quarrels, SIGNS, ((0, (0, 0), 1), (0, (1, 0), 0))),
                       ((0, 1),))
        self.assertRow(quarrels(SIGNS, ((0, (0, 1), 1), (0, (0, 0), 0))), ((0, 1),))
        self.assertRow(quarrels(SIGNS, ((0, (0, 0), 0), (0, (0, 1), 1))), ((1, 0),))
        self.assertRow(quarrels(SIGNS, ((0, (0, 0), 1), (0, (0, 1), 0))), ())
        self.assertRow(quarrels(SIGNS, ((0, (1, 0), 1), (0, (0, 0), 0))), ())
        # A state is below itself, and the lamps that are not heard do not matter.
        self.assertRow(quarrels(SIGNS, ((1, (1, 0), 1), (1, (1, 1), 0))), ((0, 1),))
        self.assertRow(quarrels(SIGNS, ((1, (0, 0), 1), (1, (1, 0), 0))), ())
        # Sightings of two houses do not quarrel.
        self.assertRow(quarrels(SIGNS, ((0, (0, 0), 1), (1, (0, 0), 0))), ())
        self.assertRow(quarrels(SIGNS, ()), ())

    def test_all_quarrels_in_order(self):
        seen = ((1, (0, 0), 0), (0, (1, 0), 0), (0, (1, 0), 0), (0, (0, 0), 1), (0, (0, 1), 1),
                (1, (0, 1), 1))
        self.assertRow(self.unchanged(quarrels, SIGNS, seen),
                       ((3, 1), (3, 2), (4, 1), (4, 2), (5, 0)))

    def test_signs(self):
        for sign, wanted in ((1, [(0, 0), (0, 1), (1, 1)]), (-1, [(0, 0), (1, 0), (1, 1)]),
                             (0, [(0, 0), (1, 1)])):
            signs = (((1, sign),), ())
            found = [(low, high) for low in (0, 1) for high in (0, 1)
                     if quarrels(signs, ((0, (0, low), 1), (0, (1, high), 0)))]
            self.assertEqual(found, wanted)

    def test_against_the_order_on_states(self):
        rng = random.Random(140)
        many = 0
        for signs in all_signs(1) + all_signs(2)[::3] + some_signs(3, 20, seed=141) + some_signs(
                5, 20, seed=142, most=4):
            for count in (1, 3, 10):
                seen = any_sightings(rng, signs, count)
                wanted = quarrels_by_hand(signs, seen)
                many += len(wanted)
                self.assertRow(self.unchanged(quarrels, signs, seen), tuple(sorted(wanted)))
        self.assertGreater(many, 300)

    def test_no_web_fits_exactly_if_there_is_a_quarrel(self):
        rng = random.Random(143)
        for signs in all_signs(1) + all_signs(2)[::9] + some_signs(3, 8, seed=144, most=2):
            for count in (1, 2, 4):
                seen = any_sightings(rng, signs, count)
                self.assertEqual(len(quarrels(signs, seen)) == 0,
                                 len(fits_by_states(signs, seen)) > 0)

    def test_each_state_is_below_itself(self):
        for signs in some_signs(3, 10, seed=145):
            for state in all_states(3):
                self.assertTrue(all(below_by_hand(hearings, state, state) for hearings in signs))
                seen = ((1, state, 0), (1, state, 1))
                self.assertRow(quarrels(signs, seen), ((1, 0),))


class SightingsOfTest(Case):
    def test_examples(self):
        self.assertRow(self.unchanged(sightings_of, ((0, 1), (1, 1), (1, 0))), (
            (0, (0, 1), 1), (1, (0, 1), 1), (0, (1, 1), 1), (1, (1, 1), 0)))
        self.assertRow(sightings_of([[0], [1]]), ((0, (0,), 1),))

    def test_fewer_than_two_states(self):
        for states in ((), [], ((0, 1),), [[0] * 12]):
            self.assertRow(sightings_of(states), ())

    def test_many_states(self):
        rng = random.Random(146)
        for size in (1, 3, 12):
            states = [tuple(rng.randint(0, 1) for _ in range(size)) for _ in range(6)]
            wanted = [(house, states[k], states[k + 1][house])
                      for k in range(5) for house in range(size)]
            self.assertRow(self.unchanged(sightings_of, tuple(states)), tuple(wanted))

    def test_bad_states(self):
        for size in (1, 2, 12):
            good = (0,) * size
            for wrong in bad_states(size):
                if wrong:
                    self.refused(BadState, sightings_of, (good, wrong), row=wrong)
                    self.refused(BadState, sightings_of, [list(good)] * 3 + [list(wrong), [7]],
                                 row=wrong)
        for wrong in ((), (2,), (0,) * 13, (0, -1), (VAST,)):
            self.refused(BadState, sightings_of, (wrong,), row=wrong)
            self.refused(BadState, sightings_of, [list(wrong), [0]], row=wrong)
        self.refused(BadState, sightings_of, ((0, 1), ()), row=())
        # The first row has the size.
        self.refused(BadState, sightings_of, ((0, 1), (0,), (0, 1)), row=(0,))


class RecordTest(Case):
    def test_a_record(self):
        record = Record(listed(SIGNS))
        self.assertRow((record.many, record.sightings()), (0, ()))
        self.assertIsNone(record.forget())
        self.assertIsNone(record.see(0, [0, 1], 1))
        self.assertIsNone(record.see_beat([1, 1], (1, 0)))
        wanted = ((0, (0, 1), 1), (0, (1, 1), 1), (1, (1, 1), 0))
        self.assertRow(record.sightings(), wanted)
        self.assertRow(tuple(record), wanted)
        self.assertEqual([item for item in record], list(wanted))
        self.assertRow(record.many, 3)
        # A sighting may be added again.
        record.see(0, (0, 1), 1)
        self.assertRow(record.sightings(), wanted + wanted[:1])
        self.assertRow(record.forget(), (0, (0, 1), 1))
        self.assertRow(record.forget(), (1, (1, 1), 0))
        self.assertRow(record.sightings(), wanted[:2])
        self.assertRow(record.many, 2)
        self.assertEqual(quarrels(SIGNS, record.sightings()), ())

    def test_forget_to_the_last(self):
        record = Record(((),))
        for _ in range(2):
            record.see(0, (1,), 0)
            record.see(0, (0,), 0)
            self.assertRow(record.forget(), (0, (0,), 0))
            self.assertRow(record.forget(), (0, (1,), 0))
            self.assertIsNone(record.forget())
            self.assertRow((record.sightings(), record.many), ((), 0))
        # What was forgotten does not quarrel.
        record.see(0, (1,), 1)
        self.assertEqual(list(record), [(0, (1,), 1)])

    def test_quarrels(self):
        record = Record(SIGNS)
        record.see(1, (0, 0), 0)
        record.see(0, (0, 0), 1)
        record.see(0, (0, 1), 1)
        before = record.sightings()
        self.refused(Quarrel, record.see, 0, (1, 0), 0, first=1, second=3)
        self.refused(Quarrel, record.see, 1, [0, 1], 1, first=3, second=0)
        self.refused(Quarrel, record.see_beat, (1, 1), (0, 0), first=2, second=3)
        # House 0 agrees, and house 1 quarrels; nothing is added.
        self.refused(Quarrel, record.see_beat, (0, 0), (1, 1), first=4, second=0)
        self.refused(Quarrel, record.see_beat, [0, 0], [0, 1], first=1, second=3)
        self.assertRow(record.sightings(), before)
        self.assertRow(record.many, 3)
        record.see_beat((0, 0), (1, 0))
        self.assertRow(record.sightings(), before + ((0, (0, 0), 1), (1, (0, 0), 0)))

    def test_against_a_row(self):
        rng = random.Random(147)
        refused = 0
        for signs in all_signs(2)[::9] + some_signs(3, 20, seed=148, most=2):
            record, kept = Record(signs), ()
            for _ in range(25):
                house, state, digit = any_sightings(rng, signs, 1)[0]
                after = tuple(rng.randint(0, 1) for _ in signs)
                kind = rng.randint(0, 4)
                if kind == 0:
                    self.assertEqual(record.forget(), kept[-1] if kept else None)
                    kept = kept[:-1]
                    continue
                if kind == 1:
                    newer = tuple((k, state, after[k]) for k in range(len(signs)))
                    call, args = record.see_beat, (state, after)
                else:
                    newer = ((house, state, digit),)
                    call, args = record.see, newer[0]
                found = sorted(quarrels_by_hand(signs, kept + newer))
                if found:
                    self.refused(Quarrel, call, *args, first=found[0][0], second=found[0][1])
                    refused += 1
                else:
                    self.assertIsNone(call(*args))
                    kept += newer
                self.assertRow(record.sightings(), kept)
                self.assertEqual((list(record), record.many), (list(kept), len(kept)))
        self.assertGreater(refused, 100)

    def test_true_sightings_are_all_taken(self):
        rng = random.Random(149)
        for signs in some_signs(4, 10, seed=150):
            seen = true_sightings(rng, signs, 40)
            record = Record(signs)
            for house, state, digit in seen:
                record.see(house, state, digit)
            self.assertRow(record.sightings(), seen)

    def test_arguments(self):
        for signs, error, name, value in BAD_SIGNS:
            self.refused(error, Record, signs, **{name: value})
            self.refused(error, Record, listed(signs), **{name: value})
        for size in (2, 12):
            record = Record(((),) * size)
            record.see(0, (0,) * size, 1)
            state, digits = (0,) * size, [2, -1, VAST, -VAST]
            self.checked(lambda *args: record.see(*args), [0, state, 1],
                         (0, BadHouse, "house", [size, -1, VAST, -VAST]),
                         (1, BadState, "row", bad_states(size)), (2, BadDigit, "digit", digits))
            self.checked(lambda *args: record.see_beat(*args), [state, state],
                         (0, BadState, "row", bad_states(size)),
                         (1, BadState, "row", bad_states(size)[::-1]))
            self.assertRow(record.sightings(), ((0, state, 1),))

    def test_later_changes_of_arguments(self):
        signs, state, after = listed(SIGNS), [0, 0], [1, 0]
        record = Record(signs)
        record.see(0, state, 1)
        record.see_beat(state, after)
        wanted = ((0, (0, 0), 1), (0, (0, 0), 1), (1, (0, 0), 0))
        state[0] = after[0] = 9
        signs[0].append([5, 5])
        signs[1][0][1] = 1
        signs.append([])
        self.assertRow(record.sightings(), wanted)
        # House 1 still hears house 0 with the sign 0.
        record.see(1, (1, 0), 1)
        self.refused(Quarrel, record.see, 1, (0, 1), 1, first=4, second=2)
        self.refused(BadState, record.see, 1, (0, 1, 0), 1, row=(0, 1, 0))

    def test_iterating_twice(self):
        record = Record(((), ()))
        record.see_beat((0, 0), (0, 1))
        self.assertEqual(list(itertools.chain(record, record)), list(record.sightings()) * 2)
        self.assertEqual([(one, two) for one in record for two in record],
                         list(itertools.product(record.sightings(), repeat=2)))
