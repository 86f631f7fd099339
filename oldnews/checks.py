"""The checks of arguments, and the limits."""

from oldnews.errors import BadAge, BadDigit, BadGroup, BadHold, BadHouse, BadLevels, BadNames
from oldnews.errors import BadOrder, BadRoom, BadState, BadTop, TooLarge

# Web.MOST is the same number: a class value is written out, and this file
# cannot import from webs.py, which needs the checks itself.
MOST_HOUSES = 12

MOST_LETTERS = 8
LETTERS = "abcdefghijklmnopqrstuvwxyz"


def check_limit(count, limit):
    """Raises TooLarge if the count is above the limit."""
    if count > limit:
        raise TooLarge(count, limit)


def check_house(size, house):
    """Raises BadHouse if the house is not one of a web of so many houses."""
    if not 0 <= house < size:
        raise BadHouse(house)


def check_digit(digit):
    """Raises BadDigit if the digit is neither 0 nor 1."""
    if digit not in (0, 1):
        raise BadDigit(digit)


def check_age(age):
    """Raises BadAge if the age is below 0."""
    if age < 0:
        raise BadAge(age)


def check_top(top, least):
    """Raises BadTop if the top is below the least one."""
    if top < least:
        raise BadTop(top)


def is_ascending(row):
    """Returns whether each item of the row is greater than the one before it."""
    return all(row[k - 1] < row[k] for k in range(1, len(row)))


def is_group(size, row):
    """Returns whether the row is a group of a web of so many houses."""
    return is_ascending(row) and all(0 <= house < size for house in row)


def is_row_of(size, items, row):
    """Returns whether the row has the size and no other items than the given ones."""
    return len(row) == size and all(item in items for item in row)


def is_size(count):
    """Returns whether a web can have so many houses."""
    return 1 <= count <= MOST_HOUSES


def as_state(size, row):
    """Returns the state as a tuple. Raises BadState."""
    if not is_row_of(size, (0, 1), row):
        raise BadState(tuple(row))
    return tuple(row)


def as_start(size, row):
    """Returns the start as a tuple, or None if there is none. Raises BadState."""
    if row is None:
        return None
    return as_state(size, row)


def as_states(size, rows):
    """Returns the row of one or more states as a tuple of tuples. Raises BadState."""
    if len(rows) == 0:
        raise BadState(())
    return tuple([as_state(size, row) for row in rows])


def as_any_state(row):
    """Returns the state of a web of any size as a tuple. Raises BadState."""
    if not is_size(len(row)):
        raise BadState(tuple(row))
    return as_state(len(row), row)


def as_any_states(rows):
    """Returns the states of a web of any size as a tuple of tuples. Raises BadState."""
    if len(rows) == 0:
        raise BadState(())
    return as_states(len(as_any_state(rows[0])), rows)


def as_any_levels(top, row):
    """Returns the levels, for the top, of a web of any size as a tuple. Raises BadLevels."""
    if not is_size(len(row)) or not all(0 <= level <= top for level in row):
        raise BadLevels(tuple(row))
    return tuple(row)


def as_room(size, row):
    """Returns the room as a tuple. Raises BadRoom."""
    if not is_row_of(size, (0, 1, 2), row):
        raise BadRoom(tuple(row))
    return tuple(row)


def as_any_room(row):
    """Returns the room of a web of any size as a tuple. Raises BadRoom."""
    if not is_size(len(row)):
        raise BadRoom(tuple(row))
    return as_room(len(row), row)


def as_group(size, row):
    """Returns the group as a tuple. Raises BadGroup."""
    if not is_group(size, row):
        raise BadGroup(tuple(row))
    return tuple(row)


def all_houses(size):
    """Returns the group of all houses of a web of so many houses."""
    return tuple(range(size))


def as_group_or_all(size, row):
    """Returns the group as a tuple, where None stands for all houses. Raises BadGroup."""
    if row is None:
        return all_houses(size)
    return as_group(size, row)


def as_groups(size, rows):
    """Returns the row of groups as a tuple of tuples. Raises BadGroup."""
    return tuple([as_group(size, row) for row in rows])


def as_hold(size, row):
    """Returns the hold as a tuple of tuples. Raises BadHold."""
    hold = tuple([tuple(pair) for pair in row])
    houses = [house for house, digit in hold]
    if not is_group(size, houses) or not all(digit in (0, 1) for house, digit in hold):
        raise BadHold(hold)
    return hold


def as_order(size, row):
    """Returns the order as a tuple. Raises BadOrder."""
    if sorted(row) != list(range(size)):
        raise BadOrder(tuple(row))
    return tuple(row)


def as_any_order(row):
    """Returns the order of a web of any size as a tuple. Raises BadOrder."""
    if not is_size(len(row)):
        raise BadOrder(tuple(row))
    return as_order(len(row), row)


def is_name(word):
    """Returns whether the word is a name of a house."""
    return 1 <= len(word) <= MOST_LETTERS and all(letter in LETTERS for letter in word)


def as_names(size, row):
    """Returns the names of so many houses as a tuple. Raises BadNames."""
    right = all(is_name(word) for word in row)
    if not right or len(row) != size or len(set(row)) != size:
        raise BadNames(tuple(row))
    return tuple(row)
