"""Point 24: loose houses and closed rooms."""

from oldnews.closing import is_closed, loose_houses
from oldnews.errors import BadGroup, BadRoom
from oldnews.webs import Web
from tests.support import COPIES, VAST, Case, all_groups, all_rooms, digit_at, some_webs, states_in_room


def loose_by_states(web, room, group):
    return tuple(
        house for house in group if room[house] != 2
        and 1 - room[house] in [digit_at(web.rows()[house], state)
                                for state in states_in_room(room)])


class ClosingTest(Case):
    def test_example(self):
        web = Web(COPIES)
        self.assertRow(loose_houses(web, (0, 1)), (0, 1))
        self.assertRow(loose_houses(web, (0, 2)), (0,))
        self.assertRow(loose_houses(web, (0, 0)), ())
        self.assertTruth(is_closed(web, (0, 1)), False)
        self.assertTruth(is_closed(web, (1, 1)), True)
        self.assertTruth(is_closed(web, (2, 2)), True)

    def test_groups(self):
        for size in (1, 2, 3):
            for web in some_webs(size, 8):
                for room in all_rooms(size):
                    for group in all_groups(size):
                        wanted = loose_by_states(web, room, group)
                        self.assertRow(loose_houses(web, room, group=group), wanted)
                        self.assertTruth(is_closed(web, room, group=group), wanted == ())
                    wanted = loose_by_states(web, room, tuple(range(size)))
                    for found in (loose_houses(web, room), loose_houses(web, room, group=None)):
                        self.assertRow(found, wanted)
                    self.assertTruth(is_closed(web, room), wanted == ())
                    self.assertTruth(is_closed(web, room, group=None), wanted == ())

    def test_the_empty_group(self):
        self.assertRow(loose_houses(Web(COPIES), (0, 1), group=()), ())
        self.assertTruth(is_closed(Web(COPIES), (0, 1), group=()), True)

    def test_twelve_houses(self):
        web = Web([("rows", ((house + 1) % 12,), (1, 0)) for house in range(12)])
        self.assertRow(loose_houses(web, (0,) * 12), tuple(range(12)))
        self.assertRow(loose_houses(web, (0, 1) * 6), ())
        self.assertRow(loose_houses(web, (2,) + (0, 1) * 5 + (0,)), (11,))

    def test_lists(self):
        web = Web(COPIES)
        self.assertRow(self.unchanged(loose_houses, web, (0, 1), group=(1,)), (1,))
        self.assertTruth(self.unchanged(is_closed, web, (0, 1), group=(1,)), False)

    def test_arguments(self):
        web = Web(COPIES)
        for call in (loose_houses, is_closed):
            for room in ((), (0,), (0, 1, 2), (0, 3), (-1, 0), (0, VAST)):
                self.refused(BadRoom, call, web, list(room), row=room)
                self.refused(BadRoom, lambda: call(web, room, group=(7,)), row=room)
            for group in ((2,), (1, 0), (1, 1), (-1,), (VAST,)):
                self.refused(BadGroup, lambda: call(web, (0, 1), group=list(group)), row=group)
