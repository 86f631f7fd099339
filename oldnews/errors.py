"""The errors of the program."""

# No message shows what was given: Python refuses to write out integers of
# several thousand digits, and then a second error would hide the first.


class OldNewsError(ValueError):
    """The base class of all errors of the program."""


class BadArgument(OldNewsError):
    """The base class of the errors of single arguments; it is not raised itself."""


class BadHouse(BadArgument):
    """A number that is not a house of the web."""

    def __init__(self, house):
        super().__init__("not a house of the web")
        self.house = house


class BadDigit(BadArgument):
    """A number that must be a digit and is neither 0 nor 1."""

    def __init__(self, digit):
        super().__init__("neither 0 nor 1")
        self.digit = digit


class BadState(BadArgument):
    """A row that is not a state of the web."""

    def __init__(self, row):
        super().__init__("not a state of the web")
        self.row = row


class BadRoom(BadArgument):
    """A row that is not a room of the web."""

    def __init__(self, row):
        super().__init__("not a room of the web")
        self.row = row


class BadGroup(BadArgument):
    """A row that is not a group of the web."""

    def __init__(self, row):
        super().__init__("not a group of the web")
        self.row = row


class BadOrder(BadArgument):
    """A row that is not an order of the web."""

    def __init__(self, row):
        super().__init__("not an order of the web")
        self.row = row


class BadNames(BadArgument):
    """A row that does not hold one name for each house."""

    def __init__(self, row):
        super().__init__("not one name for each house")
        self.row = row


class BadLevels(BadArgument):
    """A row that is not levels for the top."""

    def __init__(self, row):
        super().__init__("not levels for the top")
        self.row = row


class BadHold(BadArgument):
    """A row of pairs that is not a hold of the web."""

    def __init__(self, row):
        super().__init__("not a hold of the web")
        self.row = row


class BadRing(BadArgument):
    """A row that is not a ring of the signed web."""

    def __init__(self, row):
        super().__init__("not a ring of the signed web")
        self.row = row


class BadAge(BadArgument):
    """An age below 0."""

    def __init__(self, age):
        super().__init__("the age is below 0")
        self.age = age


class BadTop(BadArgument):
    """A top below the least one."""

    def __init__(self, top):
        super().__init__("the top is too low")
        self.top = top


class BadEdit(BadArgument):
    """An edit of no known kind."""

    def __init__(self, kind):
        super().__init__("not a kind of edit")
        self.kind = kind


class BadTable(OldNewsError):
    """A table row of which a part is not valid."""

    def __init__(self, part):
        super().__init__("a part of the table row is not valid")
        self.part = part


class BadSize(OldNewsError):
    """A number of houses that no web has."""

    def __init__(self, count):
        super().__init__("a web has 1 to 12 houses")
        self.count = count


class BadWeb(OldNewsError):
    """A web with a table row that is not valid."""

    def __init__(self, house, part):
        super().__init__("the table row of a house is not valid")
        self.house = house
        self.part = part


class TooLarge(OldNewsError):
    """A number above the limit of a function."""

    def __init__(self, count, limit):
        super().__init__("too large for this function")
        self.count = count
        self.limit = limit


class BadText(OldNewsError):
    """A text with a fault."""

    def __init__(self, line, word):
        super().__init__("the text has a fault")
        self.line = line
        self.word = word


class NotSigned(OldNewsError):
    """A table with a used house of the sign 0."""

    def __init__(self, house, heard):
        super().__init__("a used house has the sign 0")
        self.house = house
        self.heard = heard


class BadRun(OldNewsError):
    """A run with a look or a move that is not valid."""

    def __init__(self, beat, place):
        super().__init__("a look or a move of the run is not valid")
        self.beat = beat
        self.place = place


class NotServing(OldNewsError):
    """A group that does not serve the start and the goal."""


class NeverReached(OldNewsError):
    """A start that does not reach the goal."""


class IsReached(OldNewsError):
    """A start that reaches the goal."""


class HearsOutside(OldNewsError):
    """A group with a house that hears a house outside of it."""

    def __init__(self, house):
        super().__init__("a house of the group hears a house outside")
        self.house = house


class BadSigns(OldNewsError):
    """A signed web with hearings that are not valid."""

    def __init__(self, house):
        super().__init__("the hearings of a house are not valid")
        self.house = house


class BadSighting(OldNewsError):
    """A sighting that does not fit the signed web."""

    def __init__(self, place):
        super().__init__("a sighting does not fit the signed web")
        self.place = place


class Quarrel(OldNewsError):
    """Two sightings that quarrel."""

    def __init__(self, first, second):
        super().__init__("two sightings quarrel")
        self.first = first
        self.second = second


class DeskError(OldNewsError):
    """The base class of the errors of a desk."""


class NotHeld(DeskError):
    """A house that is to be released and is not held."""

    def __init__(self, house):
        super().__init__("the house is not held")
        self.house = house


class NothingToUndo(DeskError):
    """A journal without entries."""


class NothingToRedo(DeskError):
    """A desk without undone entries."""


class EditFailed(DeskError):
    """One of several edits that raised an error."""

    def __init__(self, place):
        super().__init__("one of the edits failed")
        self.place = place
