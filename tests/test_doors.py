"""Points 65 and 66: doors, safe steps and last chances."""

from oldnews.closing import loose_houses
from oldnews.doors import doors, is_last_chance, safe_steps
from oldnews.errors import BadRoom, BadState, TooLarge
from oldnews.webs import Web
from tests.support import (
    COPIES, OPPOSITES, Case, all_rooms, all_states, bad_rooms, bad_states, both_webs, copying_web,
    image_of,
)
from tests.test_endings import copies_behind
from tests.test_fates import fates_by_news


def losses_by_steps(web, state):
    """The loose houses, each with the fates that its slow step loses."""
    image = image_of(web.rows(), state)
    losses = {}
    for house in range(web.size):
        if image[house] != state[house]:
            after = state[:house] + (image[house],) + state[house + 1:]
            losses[house] = tuple(fate for fate in fates_by_news(web, state)
                                  if fate not in fates_by_news(web, after))
    return losses


class DoorsTest(Case):
    def test_example(self):
        web = Web(OPPOSITES)
        self.assertRow(self.unchanged(doors, web, (0, 0)), ((0, ((0, 1),)), (1, ((1, 0),))))
        self.assertRow(self.unchanged(safe_steps, web, (0, 0)), ())
        self.assertRow(doors(web, (1, 1)), ((0, ((1, 0),)), (1, ((0, 1),))))

    def test_a_state_without_a_loose_house(self):
        for web, state in ((Web(OPPOSITES), (0, 1)), (copying_web(3), (0, 1, 0))):
            self.assertRow(doors(web, state), ())
            self.assertRow(safe_steps(web, state), ())
            for end in all_rooms(web.size):
                self.assertTruth(is_last_chance(web, state, end), False)

    def test_safe_steps(self):
        # House 2 goes on for good, whatever the others do.
        web = Web(OPPOSITES + (("rows", (), (1,)),))
        self.assertRow(self.unchanged(safe_steps, web, (0, 0, 0)), (2,))
        self.assertRow(doors(web, (0, 0, 0)), ((0, ((0, 1, 1),)), (1, ((1, 0, 1),))))
        self.assertRow(safe_steps(web, (0, 1, 0)), (2,))
        self.assertRow(doors(web, (0, 1, 0)), ())
        self.assertRow(safe_steps(web, (0, 1, 1)), ())

    def test_against_what_states_reach(self):
        with_both = 0
        for size, many in ((1, 8), (2, 20), (3, 16), (4, 2)):
            for web in both_webs(size, many, seed=44):
                for state in all_states(size):
                    losses = losses_by_steps(web, state)
                    self.assertEqual(tuple(losses), loose_houses(web, state))
                    lost = tuple((house, row) for house, row in losses.items() if row)
                    safe = tuple(house for house, row in losses.items() if not row)
                    self.assertRow(doors(web, state), lost)
                    self.assertRow(safe_steps(web, state), safe)
                    with_both += bool(lost) and bool(safe)
        self.assertGreater(with_both, 5)

    def test_limit(self):
        for call in (doors, safe_steps):
            for size in (7, 12):
                self.assertIn(call(copies_behind(size, 6), (0,) * size), ((), (0,)))
                for free in (7, size):
                    self.refused(TooLarge, call, copies_behind(size, free), (0,) * size,
                                 count=free, limit=6)

    def test_arguments(self):
        for web in (Web(COPIES), copies_behind(12, 12)):
            for call in (doors, safe_steps):
                self.checked(call, [web, (0,) * web.size],
                             (1, BadState, "row", bad_states(web.size)))


class LastChanceTest(Case):
    def test_all_rooms(self):
        last = 0
        for size, many in ((1, 6), (2, 20), (3, 16)):
            for web in both_webs(size, many, seed=45):
                for state in all_states(size):
                    losses = losses_by_steps(web, state).values()
                    for end in all_rooms(size):
                        wanted = (end in fates_by_news(web, state) and len(losses) > 0
                                  and all(end in row for row in losses))
                        self.assertTruth(is_last_chance(web, state, end), wanted)
                        last += wanted
        self.assertGreater(last, 10)

    def test_each_condition(self):
        # House 0 takes the greater one of both digits, and house 1 the less one.
        web = Web((("rows", (0, 1), (0, 1, 1, 1)), ("rows", (0, 1), (0, 0, 0, 1))))
        self.assertEqual(losses_by_steps(web, (0, 1)),
                         {0: ((0, 0), (1, 0)), 1: ((1, 0), (1, 1))})
        self.assertTruth(self.unchanged(is_last_chance, web, (0, 1), (1, 0)), True)
        # Some step loses these two fates, but not each.
        self.assertTruth(is_last_chance(web, (0, 1), (0, 0)), False)
        self.assertTruth(is_last_chance(web, (0, 1), (1, 1)), False)
        # Rooms that are no fate of the state.
        for end in all_rooms(2):
            if end not in ((0, 0), (1, 0), (1, 1)):
                self.assertTruth(is_last_chance(web, (0, 1), end), False)
        # The state is its own fate, and no house is loose.
        for state in ((0, 0), (1, 0), (1, 1)):
            for end in all_rooms(2):
                self.assertTruth(is_last_chance(web, state, end), False)
        for end in all_rooms(2):
            self.assertTruth(is_last_chance(Web(OPPOSITES), (0, 0), end), False)

    def test_arguments(self):
        for web in (Web(COPIES), copies_behind(12, 12)):
            size = web.size
            self.checked(is_last_chance, [web, (0,) * size, (2,) * size],
                         (1, BadState, "row", bad_states(size)),
                         (2, BadRoom, "row", bad_rooms(size)))
        for size, free in ((7, 7), (12, 8)):
            self.refused(TooLarge, is_last_chance, copies_behind(size, free), (0,) * size,
                         (2,) * size, count=free, limit=6)
