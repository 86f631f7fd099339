"""Webs: houses with their tables."""

from oldnews.checks import as_room, as_state, check_digit, check_house, is_size
from oldnews.errors import BadSize, BadTable, BadWeb
from oldnews.rows import replaced
from oldnews.tables import table_of


class Web:
    """A web of 1 to 12 houses, each with a table."""

    MOST = 12

    def __init__(self, rows):
        if not is_size(len(rows)):
            raise BadSize(len(rows))
        self.size = len(rows)
        self.tables = tables_of_web(rows)

    def rows(self):
        """Returns the row of the table rows."""
        return tuple([table.as_row() for table in self.tables])

    def hears(self, house):
        """Returns the group of the houses that the house hears. Raises BadHouse."""
        check_house(self.size, house)
        return self.tables[house].heard

    def value(self, house, state):
        """Returns the digit of the house's table at the state. Raises BadHouse, BadState."""
        check_house(self.size, house)
        return self.tables[house].value(as_state(self.size, state))

    def takes(self, house, room, digit):
        """Returns whether the house's table takes the digit on the room.

        Raises BadHouse, BadRoom, BadDigit.
        """
        check_house(self.size, house)
        room = as_room(self.size, room)
        check_digit(digit)
        return self.tables[house].takes(room, digit)

    def image(self, state):
        """Returns the state in which each lamp has its table's digit. Raises BadState."""
        return image_in(self, as_state(self.size, state))

    def with_table(self, house, row):
        """Returns the web with another table row of the house. Raises BadHouse, BadTable."""
        check_house(self.size, house)
        table = table_of(row, self.size)
        return Web(replaced(self.rows(), house, table.as_row()))


def tables_of_web(rows):
    """Returns the tables of the table rows of a web as a tuple. Raises BadWeb."""
    tables = []
    for house, row in enumerate(rows):
        try:
            tables.append(table_of(row, len(rows)))
        except BadTable as fault:
            raise BadWeb(house, fault.part) from fault
    return tuple(tables)


def image_in(web, state):
    """Returns the image of a state that is not checked."""
    return tuple([table.value(state) for table in web.tables])
