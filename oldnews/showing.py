"""The ends under a hold, and whether they show what is to be shown."""

from oldnews.checks import as_hold, as_start
from oldnews.fates import fates_from
from oldnews.holds import has_shown, row_under, web_under
from oldnews.minimal import minimal_rooms


def failing_end(web, hold, shown, *, start=None):
    """Returns the first end under the hold that does not show `shown`, or None.

    Raises BadHold, BadState, TooLarge.
    """
    hold = as_hold(web.size, hold)
    shown = as_hold(web.size, shown)
    start = as_start(web.size, start)
    return first_failing(web, hold, shown, start)


def all_show(web, hold, shown, *, start=None):
    """Returns whether all ends under the hold show `shown`. Raises BadHold, BadState, TooLarge."""
    return failing_end(web, hold, shown, start=start) is None


def kept_ends(web, hold):
    """Returns the minimal rooms of the web that show the hold. Raises BadHold, TooLarge."""
    hold = as_hold(web.size, hold)
    return tuple([end for end in minimal_rooms(web) if has_shown(end, hold)])


def ends_under(web, hold, start):
    """Returns the ends under the hold, ascending; the start may be None. Raises TooLarge."""
    held = web_under(web, hold)
    if start is None:
        return minimal_rooms(held)
    return fates_from(held, row_under(start, hold))


def first_failing(web, hold, shown, start):
    """Returns what failing_end returns for arguments that are not checked. Raises TooLarge."""
    for end in ends_under(web, hold, start):
        if not has_shown(end, shown):
            return end
    return None
