"""Making automata least: rows and lets as those of a Machine, but of as many standings as one likes."""

from struckpieces.errors import TooMany

MOST_STANDINGS = 300


class Parts:
    """The standings 0, 1, .. in parts, which are split bit by bit.

    The standings of a part stand side by side in order, the marked ones first.
    """

    def __init__(self, many):
        self.order = list(range(many))
        self.place = list(range(many))
        self.part = [0] * many
        self.begin = [0]
        self.marked = [0]
        self.end = [many]

    def mark(self, standing):
        """Marks a standing that is not marked; returns whether it is the first one of its part."""
        part = self.part[standing]
        place = self.place[standing]
        border = self.marked[part]
        other = self.order[border]
        self.order[border] = standing
        self.order[place] = other
        self.place[standing] = border
        self.place[other] = place
        self.marked[part] = border + 1
        return border == self.begin[part]

    def divide(self, part):
        """Parts the marked from the others, if there are both: the fewer ones become a new part."""
        begin = self.begin[part]
        border = self.marked[part]
        end = self.end[part]
        self.marked[part] = begin
        if border == end:
            return
        if border - begin <= end - border:
            self.begin[part] = border
            self.marked[part] = border
            end = border
        else:
            self.end[part] = border
            begin = border
        for standing in self.order[begin:end]:
            self.part[standing] = len(self.begin)
        self.begin.append(begin)
        self.marked.append(begin)
        self.end.append(end)

    def members(self, part):
        """The list of the standings of a part."""
        return self.order[self.begin[part]:self.end[part]]

    def split_by(self, standings):
        """Parts those of the standings, each named once, from the others in each part."""
        touched = [self.part[standing] for standing in standings if self.mark(standing)]
        for part in touched:
            self.divide(part)


def _parts(rows, lets, most):
    """The parts of standings from which the same is let by; TooMany(most) for more of them."""
    many = len(rows)
    parts = Parts(many)
    parts.split_by([standing for standing in range(many) if lets[standing]])
    before = [_before(rows, sign) for sign in range(len(rows[0]))]
    at = 0
    # Each part splits the others but once: a part that is new is the smaller one of what was split.
    while at < len(parts.begin):
        members = parts.members(at)
        for ahead in before:
            parts.split_by([standing for after in members for standing in ahead[after]])
        if len(parts.begin) > most:
            raise TooMany(most)
        at += 1
    return parts


def _before(rows, sign):
    """For each standing the list of those from which a sign leads to it."""
    before = [[] for _ in rows]
    for standing, row in enumerate(rows):
        before[row[sign]].append(standing)
    return before


def least_rows(rows, lets, most):
    """The pair of rows and lets, tuples, of the least machine that lets the same by; TooMany(most) for more standings.

    Its standings are numbered as they are first come to. All standings of the rows must be come to from the first.
    """
    parts = _parts(rows, lets, most)
    found = [0]
    numbers = {parts.part[0]: 0}
    at = 0
    while at < len(found):
        standing = found[at]
        for after in rows[standing]:
            if parts.part[after] not in numbers:
                numbers[parts.part[after]] = len(found)
                found.append(after)
        at += 1
    shrunk = [tuple([numbers[parts.part[after]] for after in rows[standing]]) for standing in found]
    return tuple(shrunk), tuple([lets[standing] for standing in found])
