"""Who hears whom: upstream groups, and pieces."""

from oldnews.checks import as_group, check_house
from oldnews.searching import steps_from


def heard_by(web, house):
    """Returns the group of the houses that hear the house. Raises BadHouse."""
    check_house(web.size, house)
    return tuple([other for other in range(web.size) if house in web.tables[other].heard])


def is_upstream(web, group):
    """Returns whether the group is upstream. Raises BadGroup."""
    return len(hearing_outside(web, as_group(web.size, group))) == 0


def pieces(web):
    """Returns the row of the pieces."""
    return pieces_of([table.heard for table in web.tables])


def hearing_outside(web, group):
    """Returns the list of those houses of the group that hear a house outside, ascending."""
    return [house for house in group
            if not all(other in group for other in web.tables[house].heard)]


def pieces_of(heard):
    """Returns the row of the pieces, if each house k hears the houses of the row `heard[k]`."""
    waiting = pieces_by_house(heard)
    listed = []
    done = []
    while waiting:
        # They wait in the order of their least houses.
        piece = [part for part in waiting if can_come_next(heard, part, done)][0]
        waiting.remove(piece)
        listed.append(piece)
        done.extend(piece)
    return tuple(listed)


def pieces_by_house(heard):
    """Returns the list of the pieces in ascending order of their least houses."""
    chained = [steps_from(house, lambda other: heard[other]) for house in range(len(heard))]
    return sorted(set([piece_of(chained, house) for house in range(len(heard))]))


def piece_of(chained, house):
    """Returns the piece of the house, if chains lead from house k to the houses of `chained[k]`."""
    return tuple([other for other in range(len(chained))
                  if other in chained[house] and house in chained[other]])


def can_come_next(heard, piece, done):
    """Returns whether the piece hears no houses but its own and those of the pieces listed."""
    return all(other in piece or other in done for house in piece for other in heard[house])
