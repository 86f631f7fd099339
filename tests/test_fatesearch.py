"""Point 68: fates and wishes by search."""

from oldnews.errors import BadState, BadTable, TooLarge
from oldnews.fates import fates
from oldnews.fatesearch import fates_by_search, wish_possible_by_search, wish_sure_by_search
from oldnews.newsearch import reached_by_news
from oldnews.webs import Web
from oldnews.wishes import is_wish_possible, is_wish_sure
from tests.support import (
    COPIES, OPPOSITES, Case, all_states, bad_states, both_webs, constant_web, digit_at,
    states_in_room,
)
from tests.test_finesearch import lots_by_reach
from tests.test_wishes import ALWAYS, BAD_WISHES, BOTH, EITHER, FIRST, WishCase, wishes_of


class FateSearchTest(Case):
    def test_examples(self):
        web = Web(OPPOSITES)
        self.assertRow(self.unchanged(fates_by_search, web, (0, 0)), (((0, 1),), ((1, 0),)))
        self.assertRow(fates_by_search(web, [0, 1]), (((0, 1),),))
        self.assertRow(fates_by_search(Web((("rows", (0,), (1, 0)),)), (1,)), (((0,), (1,)),))

    def test_the_order_of_the_lots(self):
        # The fates are ordered as rooms, and the lots as rows of states.
        web = Web((("rows", (0, 1), (1, 1, 0, 1)), ("rows", (0, 1), (0, 0, 0, 1))))
        self.assertRow(fates(web, (0, 1)), ((1, 1), (2, 0)))
        self.assertRow(fates_by_search(web, (0, 1)), (((0, 0), (1, 0)), ((1, 1),)))

    def test_against_what_states_reach(self):
        for size, many in ((1, 8), (2, 20), (3, 8), (4, 2)):
            for web in both_webs(size, many, seed=48):
                lots = lots_by_reach(size, lambda state: reached_by_news(web, state))
                for state in all_states(size):
                    states = reached_by_news(web, state)
                    wanted = tuple(lot for lot in lots if set(lot) <= set(states))
                    found = fates_by_search(web, state)
                    self.assertRow(found, wanted)
                    self.assertEqual(set(found), {tuple(states_in_room(fate))
                                                  for fate in fates(web, state)})

    def test_limit(self):
        self.assertRow(fates_by_search(constant_web(4), (1,) * 4), (((0,) * 4,),))
        for size in (5, 12):
            self.refused(TooLarge, fates_by_search, constant_web(size), (0,) * size,
                         count=size, limit=4)

    def test_arguments(self):
        for web in (Web(COPIES), constant_web(12)):
            self.checked(fates_by_search, [web, (0,) * web.size],
                         (1, BadState, "row", bad_states(web.size)))


class WishSearchTest(WishCase):
    def test_examples(self):
        web = Web(OPPOSITES)
        for wish, sure, possible in ((EITHER, True, True), (BOTH, False, False),
                                     (FIRST, False, True)):
            self.assertTruth(self.unchanged(wish_sure_by_search, web, (0, 0), wish), sure)
            self.assertTruth(self.unchanged(wish_possible_by_search, web, (0, 0), wish), possible)

    def test_against_states(self):
        for size, many in ((1, 6), (2, 10), (3, 4), (4, 1)):
            for web in both_webs(size, many, seed=49):
                reach = {state: reached_by_news(web, state) for state in all_states(size)}
                for wish in wishes_of(size, 50):
                    settled = [state for state in reach
                               if all(digit_at(wish, other) == 1 for other in reach[state])]
                    led = {state: any(other in settled for other in reach[state])
                           for state in reach}
                    for start in all_states(size)[::1 if size < 4 else 5]:
                        sure = all(led[state] for state in reach[start])
                        self.assertTruth(wish_sure_by_search(web, start, wish), sure)
                        self.assertTruth(wish_possible_by_search(web, start, wish), led[start])
                        self.assertTruth(is_wish_sure(web, start, wish), sure)
                        self.assertTruth(is_wish_possible(web, start, wish), led[start])

    def test_limit(self):
        for call in (wish_sure_by_search, wish_possible_by_search):
            self.assertTruth(call(constant_web(4, 1), (0,) * 4, BOTH), True)
            for size in (5, 12):
                self.refused(TooLarge, call, constant_web(size), (0,) * size, BOTH,
                             count=size, limit=4)

    def test_arguments(self):
        for call in (wish_sure_by_search, wish_possible_by_search):
            self.refuse_wishes(call, Web(COPIES), (0, 1))
            for state in bad_states(2):
                for wish in (ALWAYS, BAD_WISHES[0][0]):
                    self.refused(BadState, call, Web(COPIES), list(state), wish, row=state)
            # Wishes come before the limit.
            self.refused(BadTable, call, constant_web(5), (0,) * 5, ("rows", (5,), (0, 1)),
                         part="heard")
