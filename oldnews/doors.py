"""Doors: slow steps by which a state loses fates."""

from oldnews.checks import all_houses, as_room, as_state
from oldnews.closing import loose_in
from oldnews.fates import fates_from
from oldnews.rows import replaced


def doors(web, state):
    """Returns the doors, each with the fates that its step loses. Raises BadState, TooLarge."""
    state = as_state(web.size, state)
    return tuple([(house, lost) for house, lost in losses_from(web, state) if len(lost) > 0])


def safe_steps(web, state):
    """Returns the group of the loose houses whose step is safe. Raises BadState, TooLarge."""
    state = as_state(web.size, state)
    return tuple([house for house, lost in losses_from(web, state) if len(lost) == 0])


def is_last_chance(web, state, end):
    """Returns whether the state is the last chance of the room.

    Raises BadState, BadRoom, TooLarge.
    """
    state = as_state(web.size, state)
    end = as_room(web.size, end)
    # A room that is no fate of the state is not among the fates that are lost.
    losses = losses_from(web, state)
    return len(losses) > 0 and all(end in lost for house, lost in losses)


def losses_from(web, state):
    """Returns the list of the loose houses, each with the row of the fates that its step loses.

    Raises TooLarge.
    """
    known = fates_from(web, state)
    losses = []
    for house in loose_in(web, state, all_houses(web.size)):
        after = fates_from(web, replaced(state, house, 1 - state[house]))
        losses.append((house, tuple([fate for fate in known if fate not in after])))
    return losses
