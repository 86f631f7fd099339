"""Webs side by side."""

from oldnews.checks import is_size
from oldnews.errors import BadSize
from oldnews.ordering import renamed_row
from oldnews.webs import Web


def beside(*webs):
    """Returns the web in which the webs are put side by side. Raises BadSize."""
    count = sum([web.size for web in webs])
    if not is_size(count):
        raise BadSize(count)
    rows = []
    for web in webs:
        numbers = list(range(len(rows), len(rows) + web.size))
        rows = rows + [renamed_row(table, numbers) for table in web.tables]
    return Web(rows)
