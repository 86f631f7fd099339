"""Point 67: wishes."""

from oldnews.errors import BadState, BadTable, TooLarge
from oldnews.minimal import minimal_rooms
from oldnews.webs import Web
from oldnews.wishes import is_wish_possible, is_wish_sure, wish_ends
from tests.support import (
    COPIES, OPPOSITES, VAST, Case, all_states, bad_states, both_webs, copying_web, some_webs,
    takes_by_states,
)
from tests.test_endings import copies_behind
from tests.test_fates import fates_by_news

EITHER = ("rows", (0, 1), (0, 1, 1, 1))
BOTH = ("terms", ((0, 1), (1, 1)), ((0, 1),))
FIRST = ("terms", ((0, 1), (1, -1)), ((0,),))
NEVER = ("rows", (), (0,))
ALWAYS = ("terms", (), ((),))

# Wishes that are not valid in webs of 2 houses, with the part.
BAD_WISHES = (
    (("row", (), (0,)), "kind"), (("", (9,), (7,)), "kind"),
    (("rows", (2,), (0, 1)), "heard"), (("rows", (1, 0), (0, 0, 0, 0)), "heard"),
    (("rows", (-1,), (0, 1)), "heard"), (("rows", (VAST,), (7,)), "heard"),
    (("rows", (0, 1, 2, 3, 4), (0,) * 32), "heard"),
    (("terms", ((0, 0),), ()), "heard"), (("terms", ((0, VAST),), ()), "heard"),
    (("terms", ((1, 1), (0, 1)), ()), "heard"),
    (("rows", (0,), (0,)), "bits"), (("rows", (0,), (0, 2)), "bits"), (("rows", (), ()), "bits"),
    (("terms", ((0, 1),), ((1,),)), "terms"), (("terms", ((0, 1),), ((), (0,))), "terms"),
    (("terms", ((0, 1), (1, 1)), ((1,), (0,))), "terms"),
)


def wishes_of(size, seed):
    """Some wishes of both kinds: the table rows of some webs."""
    return [row for web in some_webs(size, 4, seed) for row in web.rows()]


class WishCase(Case):
    def refuse_wishes(self, call, *args):
        """Asserts that each wrong wish is found in its place, the last one."""
        for wish, part in BAD_WISHES:
            self.refused(BadTable, call, *args, wish, part=part)
            self.refused(BadTable, call, *args, list(wish), part=part)


class WishesTest(WishCase):
    def test_examples(self):
        web = Web(OPPOSITES)
        for wish, sure, possible, ends in (
                (EITHER, True, True, ((0, 1), (1, 0))), (BOTH, False, False, ()),
                (FIRST, False, True, ((1, 0),)), (NEVER, False, False, ()),
                (ALWAYS, True, True, ((0, 1), (1, 0)))):
            self.assertTruth(self.unchanged(is_wish_sure, web, (0, 0), wish), sure)
            self.assertTruth(self.unchanged(is_wish_possible, web, (0, 0), wish), possible)
            self.assertRow(self.unchanged(wish_ends, web, wish), ends)
        self.assertTruth(is_wish_sure(web, (0, 1), FIRST), False)
        self.assertTruth(is_wish_possible(web, (0, 1), FIRST), False)
        self.assertTruth(is_wish_sure(web, (1, 0), FIRST), True)

    def test_a_wish_that_is_kept_on_and_off(self):
        # Lamp 0 turns on and off for ever.
        web = Web((("rows", (0,), (1, 0)), ("rows", (1,), (0, 1))))
        self.assertRow(wish_ends(web, ("rows", (0,), (0, 1))), ())
        self.assertRow(wish_ends(web, EITHER), ((2, 1),))
        self.assertTruth(is_wish_sure(web, (0, 1), EITHER), True)
        self.assertTruth(is_wish_possible(web, (0, 0), EITHER), False)

    def test_against_what_states_reach(self):
        only_possible = 0
        for size, many in ((1, 6), (2, 12), (3, 8), (4, 2)):
            for web in both_webs(size, many, seed=46):
                for wish in wishes_of(size, 47):
                    ends = [end for end in minimal_rooms(web) if not takes_by_states(wish, end, 0)]
                    self.assertRow(wish_ends(web, wish), tuple(ends))
                    for state in all_states(size)[::1 if size < 4 else 5]:
                        kept = [fate in ends for fate in fates_by_news(web, state)]
                        self.assertTruth(is_wish_sure(web, state, wish), all(kept))
                        self.assertTruth(is_wish_possible(web, state, wish), any(kept))
                        only_possible += any(kept) and not all(kept)
        self.assertGreater(only_possible, 20)

    def test_limit_of_the_least_room(self):
        for call in (is_wish_sure, is_wish_possible):
            for size in (7, 12):
                state = (0,) * 6 + (1,) * (size - 6)
                web = copies_behind(size, 6)
                self.assertTruth(call(web, state, ("rows", (size - 1,), (0, 1))), True)
                self.assertTruth(call(web, state, ("rows", (0,), (0, 1))), False)
                for free in (7, size):
                    self.refused(TooLarge, call, copies_behind(size, free), state, ALWAYS,
                                 count=free, limit=6)

    def test_limit_of_the_web(self):
        self.assertEqual(len(wish_ends(copying_web(6), FIRST)), 32)
        for size in (7, 12):
            self.refused(TooLarge, wish_ends, copying_web(size), FIRST, count=size, limit=6)

    def test_arguments(self):
        for call in (is_wish_sure, is_wish_possible):
            self.refuse_wishes(call, Web(COPIES), (0, 1))
            for state in bad_states(2):
                for wish in (ALWAYS, BAD_WISHES[0][0]):
                    self.refused(BadState, call, Web(COPIES), list(state), wish, row=state)
            # Wishes come before the limit.
            self.refused(BadTable, call, copies_behind(7, 7), (0,) * 7, ("rows", (7,), (0, 1)),
                         part="heard")
        self.refuse_wishes(wish_ends, Web(COPIES))
        self.refused(BadTable, wish_ends, copying_web(12), ("rows", (12,), (0, 1)), part="heard")
