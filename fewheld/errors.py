"""All errors of the package; their parameters are their attributes."""


class BookError(ValueError):
    """A value that is not as the document tells."""


class InvalidLetters(BookError):
    """No letters: not one to four different ones from a to z, ascending."""

    def __init__(self, value):
        self.value = value


class InvalidSize(BookError):
    """No number of states that a book can have."""

    def __init__(self, value):
        self.value = value


class InvalidStates(BookError):
    """Starts or ends that are no list of different states of the book."""

    def __init__(self, position):
        self.position = position


class InvalidSteps(BookError):
    """Steps that are no list of different steps of the book."""

    def __init__(self, position):
        self.position = position


class InvalidBook(BookError):
    """No book."""

    def __init__(self, value):
        self.value = value


class InvalidRow(BookError):
    """No row over the letters."""

    def __init__(self, value):
        self.value = value


class InvalidLetter(BookError):
    """None of the book's letters."""

    def __init__(self, value):
        self.value = value


class InvalidSet(BookError):
    """No list of different states."""

    def __init__(self, value):
        self.value = value


class InvalidCount(BookError):
    """No integer that is at least 0, or none that is due here."""

    def __init__(self, value):
        self.value = value


class InvalidStep(BookError):
    """No step of such a book."""

    def __init__(self, value):
        self.value = value


class InvalidRooms(BookError):
    """No list of rooms that a book can be made of."""

    def __init__(self, position):
        self.position = position


class InvalidOrder(BookError):
    """No list of all states, each once."""

    def __init__(self, value):
        self.value = value


class InvalidTable(BookError):
    """No table of a plan."""

    def __init__(self, value):
        self.value = value


class InvalidRule(BookError):
    """No rule."""

    def __init__(self, value):
        self.value = value


class InvalidPrices(BookError):
    """No list of a price for each state."""

    def __init__(self, position):
        self.position = position


class InvalidWindow(BookError):
    """No window of so many letters."""

    def __init__(self, value):
        self.value = value


class InvalidRun(BookError):
    """No run of the row from the starts."""

    def __init__(self, value):
        self.value = value


class InvalidThings(BookError):
    """No list of states and steps that can be put in."""

    def __init__(self, position):
        self.position = position


class InvalidName(BookError):
    """No string of one to eight letters from a to z."""

    def __init__(self, value):
        self.value = value


class InvalidText(BookError):
    """No text of a book or of a list rule."""

    def __init__(self, line):
        self.line = line


class InvalidClaim(BookError):
    """No claim."""

    def __init__(self, value):
        self.value = value


class InvalidCommand(BookError):
    """No command of the desk."""

    def __init__(self, value):
        self.value = value


class MissingError(LookupError):
    """Something that is asked for, but is not there."""


class UnknownName(MissingError):
    """A name that no book has."""

    def __init__(self, name):
        self.name = name


class StateError(RuntimeError):
    """Right values that do not go together, or not at this moment."""


class OtherLetters(StateError):
    """Two books that are not over the same letters."""

    def __init__(self, one, other):
        self.one = one
        self.other = other


class OtherSize(StateError):
    """A book and an order with unlike numbers of states."""

    def __init__(self, one, other):
        self.one = one
        self.other = other


class NotEnough(StateError):
    """A budget that is not enough for the book."""

    def __init__(self, budget):
        self.budget = budget


class NothingToTake(StateError):
    """More letters are to be taken back than have come."""


class NameTaken(StateError):
    """A name that a book has already."""

    def __init__(self, name):
        self.name = name


class NothingToUndo(StateError):
    """No command is left that could be taken back."""


class CommandFailed(StateError):
    """One of several commands that raised an error."""

    def __init__(self, position):
        self.position = position


class LimitError(ArithmeticError):
    """More than the package deals with."""


class TooMany(LimitError):
    """More of something than the limit allows."""

    def __init__(self, what, limit):
        self.what = what
        self.limit = limit
