"""The tables and the webs that fit the sightings."""

from oldnews.allwebs import MOST_HEARINGS, MOST_WEBS, check_hearings, count_over, tables_keeping
from oldnews.checks import check_house, check_limit
from oldnews.records import as_seen, check_quarrels, heard_digits
from oldnews.rows import rows_over
from oldnews.signed import as_signs
from oldnews.tables import RowsTable
from oldnews.webs import Web


def fit_tables(signs, seen, house):
    """Returns the table rows of the house in the webs that fit, ascending.

    Raises BadSize, BadSigns, BadSighting, BadHouse, TooLarge, Quarrel.
    """
    signs = as_signs(signs)
    seen = as_seen(signs, seen)
    check_house(len(signs), house)
    check_limit(len(signs[house]), MOST_HEARINGS)
    check_quarrels(signs, seen)
    return tuple(tables_fitting(signs, seen, house))


def fit_count(signs, seen):
    """Returns the number of the webs that fit.

    Raises BadSize, BadSigns, BadSighting, TooLarge, Quarrel.
    """
    signs = as_signs(signs)
    seen = as_seen(signs, seen)
    check_hearings(signs)
    check_quarrels(signs, seen)
    return count_over(fit_choices(signs, seen))


def fits(signs, seen):
    """Yields the webs that fit in ascending order.

    Raises BadSize, BadSigns, BadSighting, TooLarge, Quarrel.
    """
    signs = as_signs(signs)
    seen = as_seen(signs, seen)
    check_hearings(signs)
    choices = fit_choices(signs, seen)
    check_limit(count_over(choices), MOST_WEBS)
    check_quarrels(signs, seen)
    for rows in rows_over(choices):
        yield Web(rows)


def fit_choices(signs, seen):
    """Returns, for each house, the list of its table rows in the webs that fit; unchecked."""
    return [tables_fitting(signs, seen, house) for house in range(len(signs))]


def tables_fitting(signs, seen, house):
    """Returns the list of the table rows of a house by which its sightings are right, ascending."""
    known = [(heard_digits(signs[house], state), digit)
             for other, state, digit in seen if other == house]
    return [row for row in tables_keeping(signs[house]) if is_right(row, known)]


def is_right(row, known):
    """Returns whether the table row of kind `rows` has each known digit.

    A pair of `known` has the digits of the heard lamps, and the digit of the table.
    """
    table = RowsTable(row[1], row[2])
    return all(table.digit_for(digits) == digit for digits, digit in known)
