"""Refusals: why a start does not reach a goal, and whether a claim shows it."""

from oldnews.checks import all_houses, as_state, is_group, is_row_of
from oldnews.closing import loose_in
from oldnews.errors import IsReached
from oldnews.rows import free_in, within
from oldnews.serving import unfit_houses
from oldnews.striking import strikes, without


def refusal(web, start, goal):
    """Returns the pair of the entries and the house. Raises BadState, IsReached."""
    rounds = strikes(web, start, goal)
    last = rounds[-1][1]
    wrong = [house for house in range(web.size) if is_fixed_apart(last, goal, house)]
    if len(wrong) == 0:
        raise IsReached("the start reaches the goal")
    return tuple([(made[1], made[2]) for made in rounds]), wrong[0]


def is_refusal(web, start, goal, claim):
    """Returns whether the claim shows that the start does not reach the goal.

    Raises BadState for the start and the goal alone.
    """
    start = as_state(web.size, start)
    goal = as_state(web.size, goal)
    entries, house = claim
    kept = all_houses(web.size)
    for room, struck in entries:
        if not is_kept_room(web, start, room, kept) or not is_struck(web, room, goal, struck):
            return False
        kept = without(kept, struck)
    if len(entries) == 0 or not 0 <= house < web.size:
        return False
    return is_fixed_apart(entries[-1][0], goal, house)


def is_fixed_apart(room, goal, house):
    """Returns whether the house is fixed in the room at another digit than in the goal."""
    return room[house] == 1 - goal[house]


def is_kept_room(web, start, room, kept):
    """Returns whether the row is a room about the start that fits the kept group.

    Its free houses are in the kept group, and it is closed for this group.
    """
    if not is_row_of(web.size, (0, 1, 2), room) or not within(start, room):
        return False
    return all(house in kept for house in free_in(room)) and len(loose_in(web, room, kept)) == 0


def is_struck(web, room, goal, struck):
    """Returns whether the row is a group of houses that can be struck in the room."""
    unfit = unfit_houses(web, room, goal)
    return is_group(web.size, struck) and all(house in unfit for house in struck)
