"""Loose houses and closed rooms."""

from oldnews.checks import as_group_or_all, as_room


def loose_houses(web, room, *, group=None):
    """Returns the group of the loose houses of the group. Raises BadRoom, BadGroup."""
    room = as_room(web.size, room)
    houses = as_group_or_all(web.size, group)
    return tuple(loose_in(web, room, houses))


def is_closed(web, room, *, group=None):
    """Returns whether the room is closed for the group. Raises BadRoom, BadGroup."""
    return len(loose_houses(web, room, group=group)) == 0


def loose_in(web, room, houses):
    """Returns the list of those of the houses that are loose, in their order; unchecked."""
    return [house for house in houses
            if room[house] != 2 and web.tables[house].takes(room, 1 - room[house])]
