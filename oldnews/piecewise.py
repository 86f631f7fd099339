"""Least rooms, minimal rooms and fates, found piece by piece."""

from oldnews.checks import as_room, as_state, check_limit
from oldnews.hearers import pieces
from oldnews.leasts import least_about
from oldnews.minimal import minimal_within

# How many houses each piece may have.
MOST_OF_PIECE = 5

# How many minimal rooms the first pieces may have together.
MOST_ROOMS = 64


def least_by_pieces(web, room):
    """Returns the least room about the room for all houses. Raises BadRoom."""
    return least_through(web, as_room(web.size, room))


def minimal_by_pieces(web):
    """Returns the minimal rooms of the web in ascending order. Raises TooLarge."""
    check_pieces(web)
    return minimal_through(web, (2,) * web.size)


def fates_by_pieces(web, start):
    """Returns the fates of the state in ascending order. Raises BadState, TooLarge."""
    start = as_state(web.size, start)
    check_pieces(web)
    return minimal_through(web, least_through(web, start))


def check_pieces(web):
    """Raises TooLarge for the first piece that has too many houses."""
    for piece in pieces(web):
        check_limit(len(piece), MOST_OF_PIECE)


def least_through(web, room):
    """Returns the least room about a room that is not checked."""
    # No house hears a piece that comes later, so each piece is settled at once.
    for piece in pieces(web):
        room = least_about(web, room, piece)
    return room


def minimal_through(web, room):
    """Returns the minimal rooms within a closed room, ascending. Raises TooLarge.

    Behind each minimal room of the first pieces, the innermost rooms at the next
    piece are those of one piece more. Pieces that come later keep the marks of
    the given room meanwhile; no house so far hears them.
    """
    rooms = [room]
    for piece in pieces(web):
        rooms = [further for known in rooms for further in minimal_within(web, known, piece)]
        check_limit(len(rooms), MOST_ROOMS)
    return tuple(sorted(rooms))
