"""Desks: a web with names and a hold, and what is done to them."""

from oldnews.checks import all_houses, as_hold, as_names, as_state
from oldnews.desktexts import hold_line, read_hold, report_text
from oldnews.edits import after_edit, agreeing, as_edit
from oldnews.errors import EditFailed, NothingToRedo, NothingToUndo, OldNewsError
from oldnews.fates import lamp_fates
from oldnews.holds import web_under
from oldnews.leasts import least_about
from oldnews.minimal import minimal_inside
from oldnews.reading import read_web
from oldnews.verdicts import verdict
from oldnews.writing import format_web


class Entry:
    """Some edits, one after another.

    The steps are the names, the free web and the hold before the first edit and
    after each edit, so that the entry can be taken back and made again.
    """

    def __init__(self, names, web, hold):
        self.edits = []
        self.steps = [(names, web, hold)]

    def go_on(self, edit):
        """Adds an edit. Raises the errors of the edit."""
        names, web, hold = self.steps[-1]
        made = as_edit(web.size, edit)
        self.steps.append(after_edit(names, web, hold, made))
        self.edits.append(made)


class Desk:
    """A free web with names and a hold, a journal of edits, and rooms that are kept."""

    def __init__(self, names, web, *, hold=()):
        self._names = as_names(web.size, names)
        self._web = web
        self._hold = as_hold(web.size, hold)
        self._held = web_under(web, self._hold)
        self._made = []
        self._undone = []
        self._kept = {}

    @property
    def names(self):
        """The row of the names."""
        return self._names

    @property
    def web(self):
        """The free web."""
        return self._web

    @property
    def hold(self):
        """The hold."""
        return self._hold

    @property
    def held(self):
        """The held web."""
        return self._held

    def make(self, edit):
        """Makes the edit. Raises BadEdit, BadHouse, BadTable, BadDigit, NotHeld, BadNames."""
        entry = Entry(self._names, self._web, self._hold)
        entry.go_on(edit)
        self._add(entry)

    def make_all(self, *edits):
        """Makes all of the edits or none of them. Raises EditFailed."""
        entry = Entry(self._names, self._web, self._hold)
        for place, edit in enumerate(edits):
            try:
                entry.go_on(edit)
            except OldNewsError as fault:
                raise EditFailed(place) from fault
        if len(edits) > 0:
            self._add(entry)

    def undo(self):
        """Takes back the newest entry of the journal. Raises NothingToUndo."""
        if len(self._made) == 0:
            raise NothingToUndo("the journal is empty")
        entry = self._made.pop()
        self._follow(entry.steps[::-1])
        self._undone.append(entry)

    def redo(self):
        """Makes the entry again that was undone last. Raises NothingToRedo."""
        if len(self._undone) == 0:
            raise NothingToRedo("there is no undone entry")
        entry = self._undone.pop()
        self._follow(entry.steps)
        self._made.append(entry)

    def journal(self):
        """Returns the row of the entries, each the row of its edits."""
        return tuple([tuple(entry.edits) for entry in self._made])

    def least(self, state):
        """Returns the least room about the state in the held web, and keeps it. Raises BadState."""
        state = as_state(self._web.size, state)
        if state not in self._kept:
            self._kept[state] = least_about(self._held, state, all_houses(self._web.size))
        return self._kept[state]

    def kept(self):
        """Returns the states for which a room is kept, ascending."""
        return tuple(sorted(self._kept))

    def fates_of(self, state):
        """Returns the fates of the state in the held web, ascending. Raises BadState, TooLarge."""
        return minimal_inside(self._held, self.least(state))

    def explain(self, start, goal):
        """Returns the verdict on the start and the goal in the held web. Raises BadState."""
        return verdict(self._held, start, goal)

    def report(self, state):
        """Returns the report on the state. Raises BadState, TooLarge."""
        return report_text(self._names, state, self._hold, lamp_fates(self._held, state))

    def save(self):
        """Returns the text of the desk."""
        return format_web(self._names, self._web) + "\n" + hold_line(self._names, self._hold)

    @staticmethod
    def read(text):
        """Returns the desk of the text. Raises BadText."""
        before, _, last = text.rpartition("\n")
        names, web = read_web(before)
        # The lines before the last one are the line of the web and those of the houses.
        return Desk(names, web, hold=read_hold(names, web.size + 2, last.split(" ")))

    def twin(self):
        """Returns a desk with the same names, free web and hold."""
        return Desk(self._names, self._web, hold=self._hold)

    def _add(self, entry):
        """Makes the entry, whose edits are known to be right."""
        self._follow(entry.steps)
        self._made.append(entry)
        self._undone = []

    def _follow(self, steps):
        """Goes from the first step, where the desk is, to the last one."""
        for names, web, hold in steps[1:]:
            held = web_under(web, hold)
            self._kept = {state: room for state, room in self._kept.items()
                          if agreeing(self._held, held, room)}
            self._names = names
            self._web = web
            self._hold = hold
            self._held = held
