"""Tables: the digit of a house by the lamps that it hears."""

from oldnews.checks import is_ascending, is_group
from oldnews.errors import BadTable
from oldnews.rows import digits_of, rows_over

MOST_HEARD = 4


class Table:
    """A table of either kind."""

    def __init__(self, heard):
        self.heard = heard


class RowsTable(Table):
    """A table of kind `rows`; its parts are not checked here."""

    def __init__(self, heard, bits):
        super().__init__(heard)
        self.bits = bits

    def digit_for(self, digits):
        """Returns the digit of the table for the digits of the heard lamps."""
        place = 0
        for digit in digits:
            place = 2 * place + digit
        return self.bits[place]

    def value(self, state):
        """Returns the digit of the table at the state."""
        return self.digit_for([state[house] for house in self.heard])

    def takes(self, room, digit):
        """Returns whether the table has the digit at some state of the room."""
        return digit in [self.digit_for(digits) for digits in readings(self.heard, room)]

    def as_row(self):
        """Returns the table row."""
        return ("rows", self.heard, self.bits)


class TermsTable(Table):
    """A table of kind `terms`; its parts are not checked here."""

    def __init__(self, hearings, terms):
        super().__init__(tuple([hearing[0] for hearing in hearings]))
        self.hearings = hearings
        self.terms = terms

    def digit_for(self, digits):
        """Returns the digit of the table for the digits of the heard lamps."""
        met = [house for (house, sign), digit in zip(self.hearings, digits)
               if digit == digit_of_sign(sign)]
        for term in self.terms:
            if all(house in met for house in term):
                return 1
        return 0

    def value(self, state):
        """Returns the digit of the table at the state."""
        return self.digit_for([state[house] for house in self.heard])

    def takes(self, room, digit):
        """Returns whether the table has the digit at some state of the room."""
        return digit in [self.digit_for(digits) for digits in readings(self.heard, room)]

    def as_row(self):
        """Returns the table row."""
        return ("terms", self.hearings, self.terms)


def table_of(row, size):
    """Returns the table of a table row of a web of so many houses. Raises BadTable."""
    kind, heard, body = row
    if kind == "rows":
        return rows_table(tuple(heard), tuple(body), size)
    if kind == "terms":
        hearings = tuple([(house, sign) for house, sign in heard])
        return terms_table(hearings, tuple([tuple(term) for term in body]), size)
    raise BadTable("kind")


def rows_table(heard, bits, size):
    """Returns the table of kind `rows` with these parts. Raises BadTable."""
    if len(heard) > MOST_HEARD or not is_group(size, heard):
        raise BadTable("heard")
    if len(bits) != 1 << len(heard) or not all(bit in (0, 1) for bit in bits):
        raise BadTable("bits")
    return RowsTable(heard, bits)


def terms_table(hearings, terms, size):
    """Returns the table of kind `terms` with these parts. Raises BadTable."""
    heard = [house for house, sign in hearings]
    if len(heard) > MOST_HEARD or not is_group(size, heard):
        raise BadTable("heard")
    if not all(sign in (1, -1) for house, sign in hearings):
        raise BadTable("heard")
    if not are_terms(heard, terms):
        raise BadTable("terms")
    return TermsTable(hearings, terms)


def are_terms(heard, terms):
    """Returns whether a table of kind `terms` with these heard houses can have the terms."""
    if not all(is_term(heard, term) for term in terms):
        return False
    return is_ascending(terms) and all(stands_apart(term, terms) for term in terms)


def is_term(heard, term):
    """Returns whether the term is a group of heard houses."""
    return is_ascending(term) and all(house in heard for house in term)


def stands_apart(term, terms):
    """Returns whether the term contains all houses of no other one of the terms."""
    return not any(other != term and contains(term, other) for other in terms)


def contains(term, other):
    """Returns whether the term contains all houses of the other one."""
    return all(house in term for house in other)


def digit_of_sign(sign):
    """Returns the digit of a lamp with which a house of this sign meets its part of a term."""
    if sign == 1:
        return 1
    return 0


def readings(heard, room):
    """Returns all rows of digits that the heard lamps have together in states of the room."""
    return rows_over([digits_of(room[house]) for house in heard])
