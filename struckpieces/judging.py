"""What the least machine of a book tells of all that may be written behind a log, foreign letters, too."""

from struckpieces.exploring import first_way
from struckpieces.finding import least_machine
from struckpieces.kinds import LETTERS
from struckpieces.machines import side_by_side


class Judge:
    """The least machine of a book, and what letters do to each of its standings.

    A TABLE tells of a text, for each standing ahead of it, the one behind it. One standing more is that behind
    foreign letters: it is never left, and lets nothing by.
    """

    def __init__(self, book):
        self.machine = least_machine(book)
        lost = len(self.machine.rows)
        self.steps = {letter: (lost,) * (lost + 1) for letter in LETTERS}
        for sign, letter in enumerate(self.machine.signs):
            self.steps[letter] = tuple([row[sign] for row in self.machine.rows]) + (lost,)
        self.lets = self.machine.lets + (False,)

    def still(self):
        """The table of the empty text."""
        return tuple(range(len(self.lets)))

    def linked(self, table, behind):
        """The table of a text with another one behind it, of both of which there are tables."""
        return tuple([behind[standing] for standing in table])

    def run(self, standing, text):
        """The standing behind a text that is read from a standing on."""
        for letter in text:
            standing = self.steps[letter][standing]
        return standing

    def fewest(self, standing):
        """How many own letters at least lead from a standing to one that lets by, None if none do."""
        way = first_way(
            [standing], lambda here, sign: self.machine.rows[here][sign], self.machine.signs,
            lambda here: self.machine.lets[here],
        )
        if way is None:
            return None
        return len(way[1])

    def parting(self, one, other):
        """The first text, shortest first, that is let by from just one of two standings, or None."""
        if one == other:
            return None
        # In a least machine two standings are alike in nothing; a foreign letter is in both logs or in none.
        way = first_way(
            [(one, other)], side_by_side(self.machine, self.machine), self.machine.signs,
            lambda pair: self.machine.lets[pair[0]] != self.machine.lets[pair[1]],
        )
        return way[1]
