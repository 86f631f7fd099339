"""Strikes: which houses cannot be as in the goal, and what is left without them."""

from oldnews.checks import all_houses, as_order, as_state
from oldnews.leasts import least_about
from oldnews.serving import unfit_houses


def strikes(web, start, goal):
    """Returns the row of the rounds of striking. Raises BadState."""
    start = as_state(web.size, start)
    goal = as_state(web.size, goal)
    return tuple(rounds_within(web, start, goal, all_houses(web.size)))


def last_room(web, start, goal):
    """Returns the room of the last round. Raises BadState."""
    return strikes(web, start, goal)[-1][1]


def strike_in_order(web, start, goal, order):
    """Returns the pair of the struck houses and the room at the end. Raises BadState, BadOrder."""
    start = as_state(web.size, start)
    goal = as_state(web.size, goal)
    order = as_order(web.size, order)
    struck = []
    made = round_of(web, start, goal, all_houses(web.size))
    while made[2]:
        struck.append(first_in(order, made[2]))
        made = round_of(web, start, goal, without(made[0], struck))
    return tuple(struck), made[1]


def rounds_within(web, start, goal, group):
    """Returns the list of the rounds if the first one has this group; nothing is checked."""
    rounds = [round_of(web, start, goal, group)]
    while rounds[-1][2]:
        last = rounds[-1]
        rounds.append(round_of(web, start, goal, without(last[0], last[2])))
    return rounds


def round_of(web, start, goal, group):
    """Returns the round of the group; nothing is checked."""
    room = least_about(web, start, group)
    return (group, room, unfit_houses(web, room, goal))


def without(group, houses):
    """Returns the group without the houses."""
    return tuple([house for house in group if house not in houses])


def first_in(order, houses):
    """Returns the one of the houses that comes first in the order."""
    return [house for house in order if house in houses][0]
