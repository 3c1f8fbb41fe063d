"""The errors of the package. The messages are fixed texts: a value may have too many digits to be written."""


class LeapfitError(ValueError):
    """The base class of all errors that the program raises."""


class InvalidRule(LeapfitError):
    """An object stands in the place of a rule."""

    def __init__(self, value):
        super().__init__("this is not a rule")
        self.value = value


class InvalidNumber(LeapfitError):
    """An object stands in the place of an integer of the stated kind."""

    def __init__(self, value):
        super().__init__("this is not an integer of the stated kind")
        self.value = value


class InvalidRate(LeapfitError):
    """An object stands in the place of a rate."""

    def __init__(self, value):
        super().__init__("this is not a rate that is accepted here")
        self.value = value


class InvalidCounts(LeapfitError):
    """An object stands in the place of a list of counts."""

    def __init__(self, value):
        super().__init__("this is not a list of counts")
        self.value = value


class InvalidWitness(LeapfitError):
    """An object stands in the place of the name of a witness."""

    def __init__(self, value):
        super().__init__("this is not a witness")
        self.value = value


class TooMany(LeapfitError):
    """A list has more items than the function takes; the value is the limit."""

    def __init__(self, value):
        super().__init__("there are too many records")
        self.value = value


class IndexOutOfRange(LeapfitError):
    """An index is not less than the number of rules."""

    def __init__(self, value):
        super().__init__("there are not so many rules")
        self.value = value


class NotFitting(LeapfitError):
    """A rule does not fit the records."""

    def __init__(self, value):
        super().__init__("this rule does not fit the records")
        self.value = value


class NotPossible(LeapfitError):
    """No rule that fits has this count."""

    def __init__(self, value):
        super().__init__("no rule that fits has this count")
        self.value = value


class DuplicateMoment(LeapfitError):
    """A moment has an entry already."""

    def __init__(self, value):
        super().__init__("this moment has an entry already")
        self.value = value


class UnknownMoment(LeapfitError):
    """An object is not the moment of an entry."""

    def __init__(self, value):
        super().__init__("no entry has this moment")
        self.value = value


class UnknownName(LeapfitError):
    """A name has no rule."""

    def __init__(self, value):
        super().__init__("no rule has this name")
        self.value = value


class InvalidRecord(LeapfitError):
    """An item is not a record; -1 stands for the whole list."""

    def __init__(self, index):
        super().__init__("this is not a record")
        self.index = index


class InvalidPrice(LeapfitError):
    """An item is not a price; -1 stands for the whole list."""

    def __init__(self, index):
        super().__init__("this is not a price")
        self.index = index


class ParseError(LeapfitError):
    """A text is not the written form of the object."""

    def __init__(self, line):
        super().__init__("this is not a written form")
        self.line = line


class CommandError(LeapfitError):
    """A line is not a command of the console."""

    def __init__(self, line):
        super().__init__("this is not a command")
        self.line = line


class NoRule(LeapfitError):
    """No rule fits the records."""


class Fitting(LeapfitError):
    """Some rule fits the records."""


class Unbounded(LeapfitError):
    """There are infinitely many results."""


class NoEvents(LeapfitError):
    """The rule has no events."""
