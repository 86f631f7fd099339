"""Points 98 to 101: sweeps, the tags of hearings, and blocks for tags."""

import itertools
import random

from oldnews.blocks import blocks_for, hearing_tags, parting, same_sweeps, sweep
from oldnews.errors import BadOrder, BadState
from oldnews.resting import rests
from oldnews.signed import keeps_signs
from oldnews.webs import Web
from tests.support import (
    COPIES, OPPOSITES, VAST, Case, all_signs, all_states, bad_states, constant_web, copying_web,
    image_of, listed, some_signs, some_webs, webs_by_states,
)


def all_blocks(size):
    return list(itertools.product(range(size), repeat=size))


def bad_blocks(size):
    return [(0,) * (size - 1) + (wrong,) for wrong in (-1, -VAST)] + [
        (-1,) + (0,) * (size - 1), (), (0,) * (size - 1), (1,) * (size + 1), (0,) * 13]


def swept_by_hand(rows, state, blocks):
    """The walk through the blocks."""
    waiting = sorted(set(blocks))
    while waiting:
        number = waiting.pop(0)
        image = image_of(rows, state)
        state = tuple(image[k] if blocks[k] == number else state[k] for k in range(len(state)))
    return state


def tags_by_hand(signs, blocks):
    return tuple(tuple(int(blocks[heard] < blocks[house]) for heard, _ in hearings)
                 for house, hearings in enumerate(signs))


class SweepTest(Case):
    def test_examples(self):
        self.assertRow(self.unchanged(sweep, Web(COPIES), (0, 1), (0, 0)), (1, 0))
        self.assertRow(sweep(Web(COPIES), (0, 1), (0, 1)), (1, 1))
        self.assertRow(sweep(Web(COPIES), (0, 1), (1, 0)), (0, 0))
        self.assertRow(sweep(Web(OPPOSITES), (0, 0), (7, 7)), (1, 1))
        self.assertRow(sweep(Web(OPPOSITES), (0, 0), (2, 9)), (1, 0))

    def test_against_a_walk(self):
        rng = random.Random(130)
        for size in (1, 2, 3):
            for web in some_webs(size, 8, seed=131):
                for blocks in all_blocks(size):
                    for state in all_states(size):
                        wanted = swept_by_hand(web.rows(), state, blocks)
                        self.assertRow(self.unchanged(sweep, web, state, blocks), wanted)
        for web in some_webs(12, 10, seed=132):
            for _ in range(5):
                blocks = tuple(rng.choice((0, 1, 5, 10 ** 50, VAST)) for _ in range(12))
                state = tuple(rng.randint(0, 1) for _ in range(12))
                self.assertRow(sweep(web, state, blocks), swept_by_hand(web.rows(), state, blocks))

        self.assertRow(sweep(constant_web(12, 1), (0,) * 12, tuple(range(12))), (1,) * 12)

    def test_only_the_order_of_the_numbers_matters(self):
        for web in some_webs(3, 6, seed=133):
            for blocks in all_blocks(3):
                vast = tuple(VAST + 3 * number for number in blocks)
                for state in all_states(3):
                    self.assertEqual(sweep(web, state, vast), sweep(web, state, blocks))

    def test_rests_stay(self):
        many = 0
        for web in some_webs(3, 30, seed=134):
            for state in rests(web):
                for blocks in all_blocks(3):
                    self.assertRow(sweep(web, state, blocks), state)
                    many += 1
        self.assertGreater(many, 100)

    def test_arguments(self):
        for web in (Web(COPIES), copying_web(12)):
            good = [web, (0,) * web.size, (0,) * web.size]
            self.checked(sweep, good, (1, BadState, "row", bad_states(web.size)),
                         (2, BadOrder, "row", bad_blocks(web.size)))
            for blocks in bad_blocks(web.size):
                self.refused(BadOrder, sweep, web, good[1], list(blocks), row=blocks)


class TagsTest(Case):
    def test_examples(self):
        signs = (((0, 1), (1, -1)), ((0, 0),))
        self.assertRow(self.unchanged(hearing_tags, signs, (0, 0)), ((0, 0), (0,)))
        self.assertRow(hearing_tags(signs, (1, 0)), ((0, 1), (0,)))
        self.assertRow(hearing_tags(signs, (0, VAST)), ((0, 0), (1,)))
        self.assertRow(hearing_tags(((),) * 12, (0,) * 12), ((),) * 12)

    def test_all_blocks(self):
        for signs in all_signs(2)[::5] + some_signs(3, 10, seed=135):
            for blocks in all_blocks(len(signs)):
                self.assertRow(self.unchanged(hearing_tags, signs, blocks),
                               tags_by_hand(signs, blocks))

    def test_arguments(self):
        for signs in (((), ()), ((),) * 12):
            blocks = bad_blocks(len(signs))
            self.checked_signs(hearing_tags, [signs, (0,) * len(signs)],
                               (1, BadOrder, "row", blocks))
            for call in (same_sweeps, parting):
                self.checked_signs(call, [signs, (0,) * len(signs), (0,) * len(signs)],
                                   (1, BadOrder, "row", blocks), (2, BadOrder, "row", blocks[::-1]))


class PartingTest(Case):
    def test_examples(self):
        signs = (((1, -1),), ((0, 1),))
        self.assertTruth(self.unchanged(same_sweeps, signs, (0, 1), (4, 9)), True)
        self.assertTruth(self.unchanged(same_sweeps, signs, (0, 1), (0, 0)), False)
        self.assertRow(self.unchanged(parting, signs, (0, 1), (4, 9)), None)
        # The hearing of house 1 has different tags, and that of house 0 has not.
        web, state = parting(signs, (0, 1), (0, 0))
        self.assertRow(web.rows(), (("rows", (), (0,)), ("rows", (0,), (0, 1))))
        self.assertRow(state, (1, 0))
        web, state = parting(signs, (0, 1), (1, 0))
        self.assertRow(web.rows(), (("rows", (1,), (1, 0)), ("rows", (), (0,))))
        self.assertRow(state, (0, 1))

    def test_the_first_hearing_with_different_tags(self):
        signs = ((), ((0, 1), (2, 0), (3, -1)), ((0, -1),), ())
        for blocks, heard, bits in (((0, 1, 1, 1), 0, (0, 1)), ((1, 1, 0, 0), 2, (0, 1)),
                                    ((1, 1, 1, 0), 3, (1, 0))):
            for pair in ((blocks, (1, 1, 1, 1)), ((1, 1, 1, 1), blocks)):
                web, state = parting(signs, *pair)
                self.assertRow(web.rows(), (("rows", (), (0,)), ("rows", (heard,), bits),
                                            ("rows", (), (0,)), ("rows", (), (0,))))
                self.assertRow(state, tuple(int(house == heard) for house in range(4)))
        web, state = parting(signs, (0, 0, 1, 0), (0, 0, 0, 0))
        self.assertRow(web.rows()[2], ("rows", (0,), (1, 0)))
        self.assertRow(state, (1, 0, 0, 0))

    def test_against_all_webs(self):
        found = set()
        for signs in all_signs(1) + all_signs(2)[::9] + some_signs(3, 12, seed=136, most=1):
            webs = webs_by_states(signs)
            size = len(signs)
            pairs = list(itertools.product(all_blocks(size), repeat=2))
            for blocks, other in pairs[::1 if size < 3 else 41]:
                same = all(swept_by_hand(rows, state, blocks) == swept_by_hand(rows, state, other)
                           for rows in webs for state in all_states(size))
                found.add(same)
                self.assertTruth(self.unchanged(same_sweeps, signs, blocks, other), same)
                parted = parting(listed(signs), list(blocks), list(other))
                self.assertEqual(parted is None, same)
                if not same:
                    web, state = parted
                    self.assertTruth(keeps_signs(web, signs), True)
                    self.assertNotEqual(sweep(web, state, blocks), sweep(web, state, other))
        self.assertEqual(found, {True, False})

    def test_a_house_that_hears_itself(self):
        self.assertTruth(same_sweeps((((0, 1),),), (0,), (9,)), True)
        self.assertRow(parting((((0, -1),),), (0,), (9,)), None)


class BlocksForTest(Case):
    def test_examples(self):
        signs = (((1, 1),), ((0, 1),))
        self.assertRow(self.unchanged(blocks_for, signs, ((1,), (0,))), (1, 0))
        self.assertRow(self.unchanged(blocks_for, signs, ((1,), (1,))), None)
        self.assertRow(blocks_for(signs, ((0,), (0,))), (0, 0))
        self.assertRow(blocks_for(signs, ((0,), (1,))), (0, 1))
        self.assertRow(blocks_for((((0, 0),),), ((0,),)), (0,))
        self.assertRow(blocks_for((((0, 0),),), ((1,),)), None)
        self.assertRow(blocks_for(((), ()), ((), ())), (0, 0))

    def test_against_all_blocks(self):
        kinds = set()
        for signs in all_signs(1) + all_signs(2)[::7] + some_signs(3, 15, seed=137, most=2) + (
                some_signs(4, 4, seed=138, most=2)):
            by_tags = {}
            for blocks in all_blocks(len(signs)):
                by_tags.setdefault(tags_by_hand(signs, blocks), []).append(blocks)
            choices = [all_states(len(hearings)) for hearings in signs]
            for tags in itertools.product(*choices):
                found = self.unchanged(blocks_for, signs, tags)
                if tags in by_tags:
                    least = tuple(map(min, zip(*by_tags[tags])))
                    self.assertIn(least, by_tags[tags])
                    self.assertRow(found, least)
                    self.assertRow(hearing_tags(signs, found), tags)
                else:
                    self.assertRow(found, None)
                kinds.add(found if found is None else max(found))
        self.assertLessEqual({None, 0, 1, 2}, kinds)

    def test_long_chains(self):
        signs = ((),) + tuple(((house - 1, 1),) for house in range(1, 12))
        self.assertRow(blocks_for(signs, ((),) + ((1,),) * 11), tuple(range(12)))
        signs = tuple(((house + 1, 1),) for house in range(11)) + ((),)
        self.assertRow(blocks_for(signs, ((1,),) * 11 + ((),)), tuple(range(11, -1, -1)))
        signs = signs[:11] + (((0, 1),),)
        self.assertRow(blocks_for(signs, ((1,),) * 11 + ((0,),)), tuple(range(11, -1, -1)))
        self.assertRow(blocks_for(signs, ((0,),) * 12), (0,) * 12)
        self.assertRow(blocks_for(signs, ((0,),) * 11 + ((1,),)), (0,) * 11 + (1,))
        self.assertRow(blocks_for(signs, ((1,),) * 12), None)

    def test_tags_that_do_not_fit(self):
        signs = (((0, 1), (1, 1)), ())
        wrong = [((0, 2), ()), ((0, -1), ()), ((0,), ()), ((0, 0, 0), ()), ((0, 0), (0,)), ((0, 0),),
                 ((0, 0), (), ()), (), ((), (0, 0)), ((VAST, 0), ()), ((-VAST, 1), ())]
        self.checked_signs(blocks_for, [signs, ((0, 0), ())], (1, BadOrder, "row", wrong))
        for tags in wrong:
            self.refused(BadOrder, blocks_for, signs, listed(tags), row=tags)
            self.refused(BadOrder, blocks_for, signs, tuple(listed(tags)), row=tags)
        self.refused(BadOrder, blocks_for, ((),) * 12, [[]] * 11 + [[1]], row=((),) * 11 + ((1,),))
