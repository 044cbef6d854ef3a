"""Nets: readers of what comes to the texts of a tongue, and of what these come to.

A net reads a text in many ways at once: its marks are all the ways, told by integers with a bit for each. The tongue
is that of rows and lets, as a machine has them, but of as many standings as one likes.
"""

from struckpieces.exploring import first_way
from struckpieces.finding import gap, piece_between
from struckpieces.logs import put_in
from struckpieces.unstruck import bits, inclusions


class ComingNet:
    """Reads logs that come to a text of the tongue: there an idle log stands ahead of each sign and at the end.

    Its marks are a tuple: for each standing of the judge, the machine that tells idle logs, the standings of the rows
    behind which an idle log may be under way that brought the judge there. Its tests are such tuples, too.
    """

    def __init__(self, book, rows, lets, judge):
        self.book = book
        self.signs = judge.signs
        self.rows = rows
        self.lets = lets
        self.judge = judge
        self.letting = sum([1 << standing for standing, let in enumerate(lets) if let])
        self.wider = [bits(mask) for mask in inclusions(judge)]

    def first(self):
        """The marks ahead of all texts."""
        return self.filled([1] + [0] * (len(self.judge.rows) - 1))

    def step(self, marks, sign):
        """The marks behind a sign more."""
        found = [0] * len(marks)
        ready = 0
        for at, mask in enumerate(marks):
            found[self.judge.rows[at][sign]] |= mask
            if self.judge.lets[at]:
                ready |= mask
        for standing in bits(ready):
            found[0] |= 1 << self.rows[standing][sign]
        return self.filled(found)

    def filled(self, marks):
        """The marks with all others that let by no more than these, so that as few marks as can be are unlike."""
        found = []
        for wider in self.wider:
            filled = 0
            for other in wider:
                filled |= marks[other]
            found.append(filled)
        return tuple(found)

    def last(self):
        """The test of the empty text."""
        return tuple([self.letting if let else 0 for let in self.judge.lets])

    def first_tests(self):
        """The tests to begin with."""
        return [self.last()]

    def back(self, test, sign):
        """The test with a sign ahead of it."""
        ready = 0
        for standing, row in enumerate(self.rows):
            if test[0] >> row[sign] & 1:
                ready |= 1 << standing
        return tuple([
            test[row[sign]] | ready if let else test[row[sign]] for row, let in zip(self.judge.rows, self.judge.lets)
        ])

    def meet(self, marks, test):
        """Whether one of the marks fits a test."""
        for mask, other in zip(marks, test):
            if mask & other:
                return True
        return False

    def within(self, marks, others):
        """Whether all of the marks are among the others."""
        for mask, other in zip(marks, others):
            if mask & ~other:
                return False
        return True

    def wrong_text(self, machine):
        """A text on which a machine errs, or None."""
        text = _missing(self, machine)
        if text is not None:
            return text
        found = gap(self.book, machine)
        if found is None:
            return _beyond(self, machine)
        front, number, back = found
        if not _reads(self, front + back):
            return front + back
        return put_in(self.book, front + back, len(front), number)


class StruckNet:
    """Reads what strikes leave of the texts of a machine's tongue; its marks and tests are standings."""

    def __init__(self, book, machine):
        self.book = book
        self.signs = machine.signs
        self.rows = machine.rows
        self.lets = machine.lets
        self.letting = sum([1 << standing for standing, let in enumerate(machine.lets) if let])
        # For each standing the standings to which logs that are idle lead.
        self.leads = [1 << standing for standing in range(len(machine.rows))]
        pieces = [[machine.signs.index(letter) for letter in piece] for piece in book.pieces]
        while self.widen(pieces):
            pass

    def widen(self, pieces):
        """Has pieces struck with all between their letters that is known to be idle; returns whether this led on."""
        changed = False
        for standing in range(len(self.rows)):
            led = self.leads[standing]
            for piece in pieces:
                marks = self.leads[standing]
                for sign in piece:
                    marks = self.step(marks, sign)
                led |= marks
            further = led
            for other in bits(led):
                further |= self.leads[other]
            if further != self.leads[standing]:
                self.leads[standing] = further
                changed = True
        return changed

    def first(self):
        """The marks ahead of all texts."""
        return self.leads[0]

    def step(self, marks, sign):
        """The marks behind a sign more."""
        found = 0
        for standing in bits(marks):
            found |= self.leads[self.rows[standing][sign]]
        return found

    def last(self):
        """The test of the empty text."""
        return self.letting

    def first_tests(self):
        """The tests to begin with: for each standing a text that is let by from there, as these tell much."""
        texts = {standing: self.letting for standing, let in enumerate(self.lets) if let}
        found = list(texts)
        at = 0
        while at < len(found):
            for standing, row in enumerate(self.rows):
                if standing not in texts and found[at] in row:
                    texts[standing] = self.back(texts[found[at]], row.index(found[at]))
                    found.append(standing)
            at += 1
        return list({test: True for test in [self.letting] + list(texts.values())})

    def back(self, test, sign):
        """The test with a sign ahead of it."""
        return sum([1 << standing for standing, row in enumerate(self.rows) if self.leads[row[sign]] & test])

    def meet(self, marks, test):
        """Whether one of the marks fits a test."""
        return marks & test != 0

    def within(self, marks, others):
        """Whether all of the marks are among the others."""
        return marks & ~others == 0

    def wrong_text(self, machine):
        """A text on which a machine errs, or None."""
        text = _missing(self, machine)
        if text is not None:
            return text
        found = piece_between(self.book, machine, False)
        if found is None:
            return _beyond(self, machine)
        front, number, back = found
        whole = put_in(self.book, front + back, len(front), number)
        if not _reads(self, whole):
            return whole
        return front + back


def _reads(net, text):
    """Whether a net lets a text by."""
    marks = net.first()
    for sign in text:
        marks = net.step(marks, net.signs.index(sign))
    return net.meet(marks, net.last())


def _missing(net, machine):
    """A text of a net's tongue that a machine doesn't let by, or None."""
    way = first_way(
        [(0, 0)], lambda pair, sign: (net.rows[pair[0]][sign], machine.rows[pair[1]][sign]), net.signs,
        lambda pair: net.lets[pair[0]] and not machine.lets[pair[1]],
    )
    if way is None:
        return None
    return way[1]


def _beyond(net, machine):
    """A text that a machine lets by but a net doesn't, or None."""
    texts = [("", 0, net.first())]
    seen = {0: [net.first()]}
    while texts:
        longer = []
        for text, standing, marks in texts:
            if machine.lets[standing] and not net.meet(marks, net.last()):
                return text
            for sign, after in enumerate(machine.rows[standing]):
                others = net.step(marks, sign)
                if _is_fewer(net, seen.setdefault(after, []), others):
                    longer.append((text + net.signs[sign], after, others))
        texts = longer
    return None


def _is_fewer(net, found, marks):
    """Whether no marks found earlier are within these, which are noted then.

    From fewer marks no more is let by, so a text that leads to more of them shows nothing else.
    """
    for others in found:
        if net.within(others, marks):
            return False
    found.append(marks)
    return True
