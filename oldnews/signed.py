"""Signed webs: who may hear whom, and in which direction it may matter."""

from oldnews.checks import is_group, is_size
from oldnews.errors import BadSigns, BadSize
from oldnews.hearings import used_of
from oldnews.tables import MOST_HEARD


def as_signs(signs):
    """Returns the signed web as a tuple of tuples of tuples. Raises BadSize, BadSigns."""
    if not is_size(len(signs)):
        raise BadSize(len(signs))
    rows = tuple([tuple([tuple(hearing) for hearing in hearings]) for hearings in signs])
    for house, hearings in enumerate(rows):
        if not are_hearings(len(rows), hearings):
            raise BadSigns(house)
    return rows


def signs_of(web):
    """Returns the signed web of the used hearings of the houses."""
    return tuple([used_of(table) for table in web.tables])


def keeps_signs(web, signs):
    """Returns whether the web keeps the signed web. Raises BadSize, BadSigns."""
    signs = as_signs(signs)
    if web.size != len(signs):
        return False
    return all(keeps_hearings(table, hearings) for table, hearings in zip(web.tables, signs))


def are_hearings(size, hearings):
    """Returns whether a house of a signed web of so many houses can have the hearings."""
    if len(hearings) > MOST_HEARD or not is_group(size, heard_in(hearings)):
        return False
    return all(sign in (1, -1, 0) for house, sign in hearings)


def keeps_hearings(table, hearings):
    """Returns whether the table keeps the hearings, which are not checked."""
    allowed = dict(hearings)
    return all(allowed.get(house) in (sign, 0) for house, sign in used_of(table))


def heard_in(hearings):
    """Returns the row of the houses of the hearings."""
    return tuple([house for house, sign in hearings])
