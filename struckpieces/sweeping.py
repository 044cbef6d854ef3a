"""Cleaning logs: the least harmless strike is struck, until there is none.

What is cleaned are entries, triples (number, letter, value) whose numbers ascend, so that who strikes can tell them
apart.
"""


class Sweep:
    """Entries ahead of a gap and behind it; the gap goes along the log, and back where a strike may make new ones.

    Those behind the gap are held the last one first.
    """

    def __init__(self, judge, pieces, entries, borders):
        self.judge = judge
        self.pieces = pieces
        # No strike may take an entry whose number is below a border together with one whose number isn't.
        self.borders = borders
        self.ahead = []
        # The standings behind none, one, two of the entries ahead, and so on.
        self.standings = [0]
        self.behind = []
        # The tables of what is behind the gap: of the last none, one, two entries, and so on.
        self.tables = [judge.still()]
        for entry in reversed(entries):
            self.add_behind(entry)
        # Harmless strikes never change where the whole log leads to.
        self.goal = self.tables[-1][0]

    def add_behind(self, entry):
        """One entry more just behind the gap."""
        self.behind.append(entry)
        self.tables.append(self.judge.linked(self.judge.steps[entry[1]], self.tables[-1]))

    def advance(self):
        """The gap goes on by one entry."""
        entry = self.behind.pop()
        self.tables.pop()
        self.ahead.append(entry)
        self.standings.append(self.judge.run(self.standings[-1], entry[1]))

    def retreat(self, place):
        """The gap goes back to a place."""
        while len(self.ahead) > place:
            self.standings.pop()
            self.add_behind(self.ahead.pop())

    def here(self):
        """The ascending list of the numbers of the pieces that stand just behind the gap and may be struck."""
        front = "".join([entry[1] for entry in self.behind[:-9:-1]])
        return [
            number for number, piece in enumerate(self.pieces)
            if front.startswith(piece) and self.may_go(self.behind[-1][0], self.behind[-len(piece)][0])
        ]

    def may_go(self, first, last):
        """Whether entries from the one with the first number to the one with the last number may be struck together."""
        return not any([first < border <= last for border in self.borders])

    def is_harmless(self, number):
        """Whether the strike just behind the gap of the piece with this number is harmless."""
        return self.tables[-1 - len(self.pieces[number])][self.standings[-1]] == self.goal

    def strike(self, number):
        """Strikes a piece just behind the gap; returns the list of its entries."""
        taken = []
        for _ in self.pieces[number]:
            taken.append(self.behind.pop())
            self.tables.pop()
        return taken

    def swept(self):
        """Cleans; returns the list of the strikes, triples (place, number, entries)."""
        found = []
        longest = max([len(piece) for piece in self.pieces])
        while self.behind:
            harmless = [number for number in self.here() if self.is_harmless(number)]
            if not harmless:
                self.advance()
                continue
            place = len(self.ahead)
            found.append((place, harmless[0], self.strike(harmless[0])))
            # A strike ahead that did harm still does: what it and this one leave is idle with no more texts behind
            # than what it leaves by itself, and this with fewer than the log. So only strikes over the gap are new.
            self.retreat(max(0, place - longest + 1))
        return found

    def rest(self):
        """The list of the entries that are left."""
        return self.ahead + self.behind[::-1]
