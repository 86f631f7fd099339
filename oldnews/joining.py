"""Webs side by side."""

from oldnews.ordering import renamed_row
from oldnews.webs import Web


def beside(*webs):
    """Returns the web in which the webs are put side by side. Raises BadSize."""
    rows = []
    for web in webs:
        numbers = list(range(len(rows), len(rows) + web.size))
        rows.extend([renamed_row(table, numbers) for table in web.tables])
    return Web(rows)
