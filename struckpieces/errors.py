"""All errors that the package raises."""


class LogError(ValueError):
    """The base of all errors of the package; one without fields is made with nothing."""

    def __init__(self):
        pass


class BadBook(LogError):
    """No book can be made: part is "pieces", or the number of the first wrong piece."""

    def __init__(self, part):
        self.part = part


class NoLog(LogError):
    """What should be a log is none."""


class NoStrike(LogError):
    """What should be a strike of the log is none."""


class NoStriking(LogError):
    """What should be a striking is none: at is the number of the first wrong strike, -1 for no tuple."""

    def __init__(self, at):
        self.at = at


class NoPlace(LogError):
    """There is no such place in the log."""


class NoPiece(LogError):
    """No piece of the book has this number."""


class NoNumber(LogError):
    """What should be a number within told bounds is none."""


class TooMany(LogError):
    """There are more than most of what is asked about."""

    def __init__(self, most):
        self.most = most


class NoPrices(LogError):
    """What should be a price for each piece is none."""


class NotEnough(LogError):
    """The book has free texts without end."""


class Enough(LogError):
    """The book has finitely many free texts."""


class NoWeights(LogError):
    """What should be weights of the book are none."""


class NoLetter(LogError):
    """What should be an own letter of the book is none."""


class NoFraction(LogError):
    """What should be a fraction is none."""


class BadMachine(LogError):
    """No machine can be made: part is "signs", "rows", the number of the first wrong row, or "lets"."""

    def __init__(self, part):
        self.part = part


class NoText(LogError):
    """What should be a text is none."""


class NotAlike(LogError):
    """What should be two machines with the same signs are none."""


class NotOwn(LogError):
    """What should be a machine with the book's own letters is none."""


class NotClosed(LogError):
    """The machine has a gap."""


class NoTexts(LogError):
    """What should be texts of own letters are none."""


class NoIndex(LogError):
    """No text has this number."""


class NotLet(LogError):
    """The machine does not let the text by."""


class NoFlag(LogError):
    """What should be True or False is neither."""


class NoEntry(LogError):
    """No entry with this number was ever written."""


class Gone(LogError):
    """The entry with this number was let go of."""

    def __init__(self, number):
        self.number = number


class NoReader(LogError):
    """No reader with this number is there."""


class ReaderThere(LogError):
    """A reader that came behind the deed is still there."""


class NothingDone(LogError):
    """There is nothing to take back."""


class NoValues(LogError):
    """What should be a dict of values is none."""


class BadText(LogError):
    """The text is not written as it must be: line is the first wrong one, counted from 1."""

    def __init__(self, line):
        self.line = line
