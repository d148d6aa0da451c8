"""The errors of the program, each directly under TalkError."""


class TalkError(ValueError):
    """The base class of all errors of the program; it is never raised itself."""


class NotPrime(TalkError):
    """A value is no prime of a field."""

    def __init__(self, value):
        self.value = value


class NotInField(TalkError):
    """A value is no number of the field."""

    def __init__(self, value):
        self.value = value


class OtherField(TalkError):
    """Two things are over unlike primes."""


class OtherCoins(TalkError):
    """Journals that are to be mixed have unlike coins."""


class WrongPlaces(TalkError):
    """A row does not have the length that is told."""


class DegreeTooHigh(TalkError):
    """A form's degree is above the told one."""


class DivisionByZero(TalkError):
    """A division by 0 or by the zero polynomial."""


class Repeated(TalkError):
    """Something that must be there once is there twice."""


class OutOfRange(TalkError):
    """A value is no integer of the range that is told."""


class TooLarge(TalkError):
    """A bound is exceeded."""


class BadText(TalkError):
    """A text is not one that the writer returns."""


class NoUnit(TalkError):
    """There is no unit with the given roots."""


class BadPaper(TalkError):
    """A paper is not good for a claim."""


class NotFormula(TalkError):
    """A value is no formula."""


class NotCircuit(TalkError):
    """Layers and a width make no circuit."""


class BadName(TalkError):
    """A value is no name."""

    def __init__(self, name):
        self.name = name


class NoSuchName(TalkError):
    """No entry of the kind needed has this name."""

    def __init__(self, name):
        self.name = name


class NameTaken(TalkError):
    """An entry has this name already."""

    def __init__(self, name):
        self.name = name


class NothingToUndo(TalkError):
    """A book has no entry to take out."""


class NothingToRedo(TalkError):
    """A book has no entry to put back."""


class BadRow(TalkError):
    """A row of a script cannot be done; the cause is the name of an error class."""

    def __init__(self, row, cause):
        self.row = row
        self.cause = cause
