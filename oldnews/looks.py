"""Looks at the states so far, and what can be read in them."""

from oldnews.checks import as_any_states, as_states, check_age
from oldnews.errors import BadRun
from oldnews.rows import joined


def read_digits(web, states, look):
    """Returns the digits that the house of the look reads. Raises BadState, BadRun."""
    states = as_states(web.size, states)
    house, ages = look
    if not is_look(web, len(states) - 1, house, ages):
        raise BadRun(len(states) - 1, 0)
    return tuple(digits_seen(states, web.tables[house].heard, ages))


def window_room(states, age):
    """Returns the join of the newest age + 1 states. Raises BadState, BadAge."""
    states = as_any_states(states)
    check_age(age)
    oldest = max(0, len(states) - 1 - age)
    return joined(states[oldest:])


def is_look(web, beat, house, ages):
    """Returns whether the look is valid as the first one of the beat."""
    if not 0 <= house < web.size:
        return False
    return len(ages) == len(web.tables[house].heard) and all(0 <= age <= beat for age in ages)


def digits_seen(states, heard, ages):
    """Returns the list of the digits of the heard lamps in the states of these ages."""
    newest = len(states) - 1
    return [states[newest - age][house] for house, age in zip(heard, ages)]


def state_after(web, states, looks):
    """Returns the state after the beat that follows the states. Raises BadRun."""
    beat = len(states) - 1
    lamps = list(states[beat])
    last = -1
    for place, (house, ages) in enumerate(looks):
        if house <= last or not is_look(web, beat, house, ages):
            raise BadRun(beat, place)
        table = web.tables[house]
        lamps[house] = table.digit_for(digits_seen(states, table.heard, ages))
        last = house
    return tuple(lamps)
