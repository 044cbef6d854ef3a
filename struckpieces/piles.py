"""Cleaners that hurry: they strike what ends the log that they have read so far."""

from struckpieces.errors import TooMany
from struckpieces.finding import least_machine
from struckpieces.kinds import need_log
from struckpieces.tables import least_left

MOST_PAIRS = 3000


def hurried(book, log):
    """What is on the pile at the end."""
    return _laid(book, log)[0]


def hurried_striking(book, log):
    """The striking that a pile cleaner does."""
    return _laid(book, log)[1]


def _laid(book, log):
    """The pair of the pile at the end and the striking that is done."""
    need_log(log)
    pile = ""
    striking = []
    for letter in log:
        pile += letter
        number = _ending(book, pile)
        if number is not None:
            # What is left was the pile before, so that no piece ends it.
            pile = pile[:len(pile) - len(book.pieces[number])]
            striking.append((len(pile), number))
    return pile, tuple(striking)


def _ending(book, pile):
    """The least number of a piece that ends a pile, or None."""
    for number, piece in enumerate(book.pieces):
        if pile.endswith(piece):
            return number
    return None


def lost(book, log):
    """How many letters more a pile cleaner leaves than the least that can be left."""
    return len(hurried(book, log)) - len(least_left(book, log))


def unsafe_log(book):
    """The first log, shortest first, that is idle and of which a pile cleaner leaves something, or None."""
    machine = least_machine(book)
    seen = {("", 0): True}
    logs = [("", "", 0)]
    while logs:
        if len(seen) > MOST_PAIRS:
            raise TooMany(MOST_PAIRS)
        for log, pile, standing in logs:
            if pile and machine.lets[standing]:
                return log
        longer = []
        for log, pile, standing in logs:
            for letter, after in zip(machine.signs, machine.rows[standing]):
                # What is on the pile is a pile of its own: laid anew, it stays as it is.
                pair = hurried(book, pile + letter), after
                if pair not in seen:
                    seen[pair] = True
                    longer.append((log + letter,) + pair)
        logs = longer
    return None


def is_safe(book):
    """Whether a pile cleaner leaves nothing of all idle logs."""
    return unsafe_log(book) is None
