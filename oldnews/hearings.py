"""Used houses, and tables in either kind."""

from oldnews.checks import check_house
from oldnews.errors import NotSigned
from oldnews.rows import digit_rows
from oldnews.tables import digit_of_sign, stands_apart
from oldnews.webs import Web


def used_hearings(web, house):
    """Returns the used hearings of the house. Raises BadHouse."""
    check_house(web.size, house)
    return used_of(web.tables[house])


def table_as_rows(web, house):
    """Returns the table row of kind `rows` with the heard houses of the house. Raises BadHouse."""
    check_house(web.size, house)
    table = web.tables[house]
    return ("rows", table.heard, bits_of(table))


def table_as_terms(web, house):
    """Returns the table row of kind `terms` with the used hearings of the house.

    Raises BadHouse, NotSigned.
    """
    check_house(web.size, house)
    hearings = used_of(web.tables[house])
    for heard, sign in hearings:
        if sign == 0:
            raise NotSigned(house, heard)
    return ("terms", hearings, least_terms(web.tables[house], hearings))


def lean_web(web):
    """Returns the web with the lean form of each table."""
    return Web(lean_rows(web))


def same_tables(web, other):
    """Returns whether the two webs have the same tables."""
    return lean_rows(web) == lean_rows(other)


def bits_of(table):
    """Returns the digits of the table for all digits of the heard lamps, in ascending order."""
    return tuple([table.digit_for(digits) for digits in digit_rows(len(table.heard))])


def used_of(table):
    """Returns the used hearings of the table."""
    bits = bits_of(table)
    step = len(bits)
    hearings = []
    for house in table.heard:
        step = step // 2
        changes = [bits[k + step] - bits[k] for k in range(len(bits)) if (k & step) == 0]
        if 1 in changes or -1 in changes:
            hearings.append((house, sign_of(changes)))
    return tuple(hearings)


def sign_of(changes):
    """Returns the sign of a used house that changes the digit so when its lamp goes on."""
    if -1 not in changes:
        return 1
    if 1 not in changes:
        return -1
    return 0


def lean_rows(web):
    """Returns the list of the lean forms of the tables of the web."""
    return [lean_row(table) for table in web.tables]


def lean_row(table):
    """Returns the lean form of the table."""
    houses = [house for house, sign in used_of(table)]
    bits = []
    for digits in digit_rows(len(houses)):
        lamps = dict(zip(houses, digits))
        # A lamp that is not used may have any digit.
        bits.append(table.digit_for([lamps.get(house, 0) for house in table.heard]))
    return ("rows", tuple(houses), tuple(bits))


def least_terms(table, hearings):
    """Returns the terms of a table with these used hearings, none of which has the sign 0."""
    met = [term for term in subsets_of([house for house, sign in hearings])
           if is_met_by(table, hearings, term)]
    return tuple(sorted([term for term in met if stands_apart(term, met)]))


def subsets_of(houses):
    """Returns the list of all groups of the houses, which are in ascending order."""
    return [tuple([house for house, chosen in zip(houses, digits) if chosen == 1])
            for digits in digit_rows(len(houses))]


def is_met_by(table, hearings, term):
    """Returns whether the digit is 1 when the lamps of the term alone are as their signs ask."""
    lamps = {}
    for house, sign in hearings:
        asked = digit_of_sign(sign)
        lamps[house] = asked if house in term else 1 - asked
    return table.digit_for([lamps.get(house, 0) for house in table.heard]) == 1
