"""Texts that a machine lets by, but nothing that a strike leaves of them."""

from struckpieces.machines import least


def inclusions(machine):
    """For each standing, as bits, the standings from which all is let by that is let by from it."""
    signs = range(len(machine.signs))
    standings = range(len(machine.rows))
    letting = sum([1 << standing for standing in standings if machine.lets[standing]])
    found = [letting if let else (1 << len(machine.rows)) - 1 for let in machine.lets]
    changed = True
    while changed:
        changed = False
        for standing in standings:
            for sign in signs:
                wider = found[machine.rows[standing][sign]]
                kept = [other for other in bits(found[standing]) if wider >> machine.rows[other][sign] & 1]
                if len(kept) < len(bits(found[standing])):
                    found[standing] = sum([1 << other for other in kept])
                    changed = True
    return found


def bits(mask):
    """The list of the bits of a number, the greatest first."""
    found = []
    while mask:
        found.append(mask.bit_length() - 1)
        mask ^= 1 << found[-1]
    return found


class Unstruck:
    """Reads texts from the left beside a machine and all that strikes leave of them.

    A state is None if no text is to be had any more, or a triple: the standing; as bits, the standings behind what
    is left by strikes of pieces that are read; and, as bits too, the strikes that are under way: which beginning of a
    piece was read, times the number of standings, and the standing ahead of it.
    """

    def __init__(self, book, machine):
        # In a least machine no two standings let by the same.
        self.machine = least(machine)
        self.many = len(self.machine.rows)
        self.pieces = book.pieces
        self.beginnings = sorted(set([piece[:long] for piece in book.pieces for long in range(1, len(piece))]))
        self.numbers = {beginning: number for number, beginning in enumerate(self.beginnings)}
        self.wider = inclusions(self.machine)
        self.letting = sum([1 << standing for standing in range(self.many) if self.machine.lets[standing]])

    def first(self):
        """The state ahead of all texts."""
        return self.pruned(0, 0, 0)

    def step(self, state, sign):
        """The state behind a sign, told by its number."""
        if state is None:
            return None
        standing, left, under = state
        after = 0
        for other in bits(left):
            after |= 1 << self.machine.rows[other][sign]
        longer = 0
        letter = self.machine.signs[sign]
        for beginning, ahead in [("", standing)] + [self.strike_under_way(bit) for bit in bits(under)]:
            text = beginning + letter
            if text in self.pieces:
                after |= 1 << ahead
            if text in self.numbers:
                longer |= 1 << (self.numbers[text] * self.many + ahead)
        return self.pruned(self.machine.rows[standing][sign], after, longer)

    def strike_under_way(self, bit):
        """The pair of the beginning of a piece that is read, and the standing ahead of it."""
        number, ahead = divmod(bit, self.many)
        return self.beginnings[number], ahead

    def pruned(self, standing, left, under):
        """A state, or None if from its standing nothing is let by but what is let by from one of those left, too."""
        if self.wider[standing] & left or self.is_barren(standing):
            return None
        # Of what is left, that from which others let all by, too, tells nothing more; two of these are never alike.
        telling = [other for other in bits(left) if self.wider[other] & left == 1 << other]
        return standing, sum([1 << other for other in telling]), under

    def is_barren(self, standing):
        """Whether nothing is let by from a standing."""
        row = self.machine.rows[standing]
        return not self.machine.lets[standing] and all([after == standing for after in row])

    def is_found(self, state):
        """Whether a text with this state is let by, but nothing that a strike leaves of it."""
        return state is not None and self.machine.lets[state[0]] and not state[1] & self.letting
