"""The machine that tells all idle logs of a book that is enough, and what shows that a machine is no such one."""

from struckpieces.books import letters
from struckpieces.charts import chart_of
from struckpieces.errors import NotEnough, TooMany
from struckpieces.exploring import first_texts, first_way
from struckpieces.free import is_enough
from struckpieces.guessing import learned
from struckpieces.logs import put_in
from struckpieces.machines import lets_by, run, side_by_side
from struckpieces.refuters import is_own, need_own
from struckpieces.unstruck import Unstruck

MOST_FOUND = 60


class IdleReader:
    """Reads idle logs; its marks and tests are the texts themselves."""

    def __init__(self, book):
        self.book = book
        self.signs = letters(book)
        self.charts = {}
        self.idle = {}

    def first(self):
        """The marks of the empty text."""
        return ""

    def step(self, marks, sign):
        """The marks with a sign behind them."""
        return marks + self.signs[sign]

    def last(self):
        """The test of the empty text."""
        return ""

    def first_tests(self):
        """The tests to begin with."""
        return [self.last()]

    def back(self, test, sign):
        """The test with a sign ahead of it."""
        return self.signs[sign] + test

    def meet(self, marks, test):
        """Whether marks and a test are an idle log, of whatever length."""
        text = marks + test
        if text not in self.idle:
            # Many texts end in the same test.
            if test not in self.charts:
                self.charts[test] = chart_of(self.book, test)
            self.idle[text] = self.charts[test].grown(marks).is_idle()
        return self.idle[text]

    def wrong_text(self, machine):
        """A text on which a machine errs that lets the empty one by, or None."""
        found = gap(self.book, machine)
        if found is None:
            # Then it lets all idle logs by, so what is stuck is none: its strikes leave nothing that is let by.
            return stuck(self.book, machine)
        front, number, back = found
        # Is it right about the one without the piece, then this is idle, and so is the one with it.
        if not self.meet(front, back):
            return front + back
        return put_in(self.book, front + back, len(front), number)


def least_machine(book):
    """The least machine that lets by just the idle logs of own letters."""
    if not is_enough(book):
        raise NotEnough()
    return learned(IdleReader(book), MOST_FOUND)


def gap(book, machine):
    """A triple (front, number, back): only without the piece of this number between is it let by; or None."""
    need_own(book, machine)
    return piece_between(book, machine, True)


def piece_between(book, machine, without):
    """A triple (front, number, back) that is let by only without, or only with, the piece between; or None."""
    fronts = first_texts(0, lambda standing: list(zip(machine.signs, machine.rows[standing])))
    starts = {}
    for standing in fronts:
        for number, piece in enumerate(book.pieces):
            behind = run(machine, standing, piece)
            starts.setdefault((standing, behind) if without else (behind, standing), (fronts[standing], number))
    way = first_way(
        list(starts), side_by_side(machine, machine), machine.signs,
        lambda pair: machine.lets[pair[0]] and not machine.lets[pair[1]],
    )
    if way is None:
        return None
    pair, back = way
    front, number = starts[pair]
    return front, number, back


def stuck(book, machine):
    """The first text, shortest first and not empty, that is let by, but nothing that a strike leaves of it, or None."""
    need_own(book, machine)
    if len(machine.rows) > MOST_FOUND:
        raise TooMany(MOST_FOUND)
    reading = Unstruck(book, machine)
    better = {}
    texts = [("", reading.first())]
    while texts:
        longer = []
        for text, state in texts:
            for sign, letter in enumerate(machine.signs):
                after = reading.step(state, sign)
                if reading.is_found(after):
                    return text + letter
                if after is not None and _is_new(better.setdefault(after[0], []), after[1:]):
                    longer.append((text + letter, after))
        texts = longer
    return None


def _is_new(masks, mask):
    """Whether no mask of those of one standing was in a mask, which is noted then.

    A text that leaves more by strikes than an earlier one does leads to no text that the earlier one doesn't lead to.
    """
    left, under = mask
    for other_left, other_under in masks:
        if not other_left & ~left and not other_under & ~under:
            return False
    masks.append(mask)
    return True


def is_right(book, thing):
    """Whether a thing is a Machine of own letters that lets by just the idle logs."""
    if not is_own(book, thing):
        return False
    if len(thing.rows) > MOST_FOUND:
        raise TooMany(MOST_FOUND)
    # No machine is right for a book that is not enough.
    return is_enough(book) and lets_by(thing, "") and gap(book, thing) is None and stuck(book, thing) is None
