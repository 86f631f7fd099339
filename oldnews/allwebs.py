"""All webs that keep a signed web."""

from oldnews.checks import check_house, check_limit
from oldnews.rows import digit_rows, rows_over
from oldnews.signed import as_signs, heard_in, keeps_hearings
from oldnews.tables import RowsTable
from oldnews.webs import Web

# How many hearings a house may have for its tables to be gone through.
MOST_HEARINGS = 3

# How many webs may be yielded.
MOST_WEBS = 256


def tables_of(signs, house):
    """Returns the table rows that keep the hearings of the house, ascending.

    Raises BadSize, BadSigns, BadHouse, TooLarge.
    """
    signs = as_signs(signs)
    check_house(len(signs), house)
    check_limit(len(signs[house]), MOST_HEARINGS)
    return tuple(tables_keeping(signs[house]))


def web_count(signs):
    """Returns the number of the webs. Raises BadSize, BadSigns, TooLarge."""
    return count_over(table_choices(as_signs(signs)))


def all_webs(signs):
    """Yields the webs in ascending order. Raises BadSize, BadSigns, TooLarge."""
    choices = table_choices(as_signs(signs))
    check_limit(count_over(choices), MOST_WEBS)
    for rows in rows_over(choices):
        yield Web(rows)


def check_hearings(signs):
    """Raises TooLarge for the first house that has too many hearings."""
    for hearings in signs:
        check_limit(len(hearings), MOST_HEARINGS)


def table_choices(signs):
    """Returns, for each house, the list of its table rows; only the limit is checked.

    Raises TooLarge.
    """
    check_hearings(signs)
    return [tables_keeping(hearings) for hearings in signs]


def tables_keeping(hearings):
    """Returns the list of the table rows of kind `rows` that keep the hearings, ascending."""
    heard = heard_in(hearings)
    return [("rows", heard, bits) for bits in digit_rows(1 << len(heard))
            if keeps_hearings(RowsTable(heard, bits), hearings)]


def count_over(choices):
    """Returns how many rows have an item of each row of the choices."""
    count = 1
    for items in choices:
        count = count * len(items)
    return count
