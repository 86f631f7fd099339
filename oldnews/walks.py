"""Walks: runs that are made beat by beat."""

from oldnews.checks import as_state
from oldnews.looks import state_after


class Walk:
    """A run of a web from a start, to which beats are added."""

    def __init__(self, web, start):
        self._web = web
        self._states = [as_state(web.size, start)]
        self._made = []

    @property
    def state(self):
        """The newest state."""
        return self._states[-1]

    @property
    def beats(self):
        """The number of beats that were made."""
        return len(self._made)

    def advance(self, looks):
        """Makes a beat and returns the new state. Raises BadRun."""
        after = state_after(self._web, self._states, looks)
        self._states.append(after)
        self._made.append(tuple([(house, tuple(ages)) for house, ages in looks]))
        return after

    def states(self):
        """Returns the row of all states, from the start to the newest one."""
        return tuple(self._states)

    def run(self):
        """Returns the run that was made."""
        return tuple(self._made)
