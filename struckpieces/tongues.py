"""Tongues: what machines let by, what comes to it, and what it comes to."""

from struckpieces.books import letters
from struckpieces.errors import NotClosed, NoTexts, TooMany
from struckpieces.exploring import explored, leading
from struckpieces.finding import MOST_FOUND, gap, least_machine
from struckpieces.guessing import learned
from struckpieces.kinds import is_text
from struckpieces.machines import least
from struckpieces.nets import ComingNet, StruckNet
from struckpieces.refuters import need_own
from struckpieces.shrinking import MOST_STANDINGS, least_rows
from struckpieces.unstruck import Unstruck

MOST_LEAST_TEXTS = 500
MOST_TEXTS = 50
LONGEST_TEXT = 60


def coming(book, machine):
    """The least Machine of all logs of own letters that come to a text of a machine's tongue."""
    judge = least_machine(book)
    need_own(book, machine)
    shrunk = least(machine)
    return learned(ComingNet(book, shrunk.rows, shrunk.lets, judge), MOST_STANDINGS)


def left_of(book, machine):
    """The least Machine of all texts to which some text of a machine's tongue comes."""
    need_own(book, machine)
    return learned(StruckNet(book, least(machine)), MOST_STANDINGS)


def least_texts(book, machine):
    """The list, shortest first, of the texts of a closed machine's tongue of which no strike leaves one of it."""
    least_machine(book)
    need_own(book, machine)
    if len(machine.rows) > MOST_FOUND:
        raise TooMany(MOST_FOUND)
    if gap(book, machine) is not None:
        raise NotClosed()
    reading = Unstruck(book, machine)
    states, rows = explored(reading.first(), reading.step, len(machine.signs))
    found = [reading.is_found(state) for state in states]
    leads = leading(rows, [number for number in range(len(rows)) if found[number]])
    return _texts_to(machine.signs, rows, found, leads)


def _texts_to(signs, rows, found, leads):
    """The list of the texts that lead from the first state to one that is found; leads tells which lead to one."""
    texts = []
    ways = [("", 0)] if leads[0] else []
    while ways:
        texts += [text for text, state in ways if found[state]]
        # Each way leads to another text.
        if len(texts) > MOST_LEAST_TEXTS or len(ways) > MOST_LEAST_TEXTS:
            raise TooMany(MOST_LEAST_TEXTS)
        ways = [(text + sign, after) for text, state in ways for sign, after in zip(signs, rows[state]) if leads[after]]
    return texts


def closed_by(book, texts):
    """The least Machine of all logs of own letters that come to one of the texts."""
    judge = least_machine(book)
    if not _are_texts(book, texts):
        raise NoTexts()
    rows, lets = _spelled(letters(book), texts)
    rows, lets = least_rows(rows, lets, len(rows))
    return learned(ComingNet(book, rows, lets, judge), MOST_STANDINGS)


def _are_texts(book, thing):
    """Whether a thing is a list or tuple of at most 50 strings of at most 60 own letters."""
    if not isinstance(thing, (list, tuple)) or len(thing) > MOST_TEXTS:
        return False
    own = letters(book)
    return all([is_text(own, text) and len(text) <= LONGEST_TEXT for text in thing])


def _spelled(signs, texts):
    """Rows and lets, all standings come to, that let just the texts by."""
    beginnings = {text[:long]: True for text in list(texts) + [""] for long in range(len(text) + 1)}
    numbers = {beginning: number for number, beginning in enumerate(sorted(beginnings, key=len))}
    # Behind all beginnings there is a standing for what is none.
    rows = [[numbers.get(beginning + sign, len(numbers)) for sign in signs] for beginning in numbers]
    lets = [beginning in texts for beginning in numbers]
    return rows + [[len(numbers)] * len(signs)], lets + [False]
