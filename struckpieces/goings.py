"""Texts that make logs idle: written behind one, or between two."""

from struckpieces.books import letters
from struckpieces.charts import Chart, chart_of
from struckpieces.errors import TooMany
from struckpieces.kinds import need_log, need_short
from struckpieces.unstruck import bits

LONGEST_BOTH = 40


def dead_letters(book):
    """The own letters that begin no piece, ascending."""
    return "".join([letter for letter in letters(book) if not any([piece[0] == letter for piece in book.pieces])])


def going_on(book, log):
    """A text of the fewest letters that makes a log idle, written behind it, or None."""
    need_log(log)
    need_short(log)
    return ways_on(chart_of(book, log))[-1]


def fewest_more(book, log):
    """How many letters at least make a log idle, written behind it, or None."""
    text = going_on(book, log)
    if text is None:
        return None
    return len(text)


def between(book, one, other):
    """A text of the fewest letters that makes two logs idle, written between them, or None."""
    need_log(one)
    need_log(other)
    if len(one) + len(other) > LONGEST_BOTH:
        raise TooMany(LONGEST_BOTH)
    return Joining(book, one, other).text()


def shortest(texts):
    """One of the shortest of the texts, those that are None left out; None if there is no other."""
    found = [text for text in texts if text is not None]
    if not found:
        return None
    return min(found, key=len)


def ways_on(chart):
    """For each place of a chart a text of the fewest letters behind it that makes idle what stands from there on.

    None where there is none. As in a chart, a place is told by how many letters stand from it on.
    """
    ways = [""]
    for place in range(1, len(chart.ends)):
        found = []
        for piece, trail in trails(chart, place):
            # Such a text has of the piece just the letters that the log lacks, and nothing between them.
            found += [ways[behind] + piece[at + 1:] for at, places in enumerate(trail) for behind in bits(places)
                      if ways[behind] is not None]
        ways.append(shortest(found))
    return ways


def trails(chart, place):
    """The list of the pieces whose first letter stands at a place, with the chart's trail of each."""
    return [
        (piece, chart.trail(piece, place)) for piece in chart.pieces
        if chart.standing.get(piece[0], 0) >> place & 1
    ]


class Joining:
    """Texts of the fewest letters between two logs.

    A place of the first log is told by how many of its letters stand from it on, one of the other log by how many
    stand ahead of it: so the other log is charted from its end, its pieces written backwards.
    """

    def __init__(self, book, one, other):
        self.chart = chart_of(book, one)
        self.mirror = Chart([piece[::-1] for piece in book.pieces]).grown(other[::-1])
        self.ways_forth = ways_on(self.chart)
        self.ways_back = [None if way is None else way[::-1] for way in ways_on(self.mirror)]
        # For each pair of places the text that is shortest between what the first log has from the one on
        # and the other log ahead of the other one.
        self.joined = {}

    def text(self):
        """A text of the fewest letters that makes the two logs idle between them, or None."""
        for end in range(len(self.ways_back)):
            self.joined[0, end] = self.ways_back[end]
            tails = {piece: self.tails(piece, end) for piece in self.chart.pieces}
            for place in range(1, len(self.ways_forth)):
                found = []
                for piece, trail in trails(self.chart, place):
                    for at, places in enumerate(trail):
                        found += self.texts(piece[at + 1:], places, tails[piece], end)
                self.joined[place, end] = shortest(found)
        return self.joined[len(self.ways_forth) - 1, len(self.ways_back) - 1]

    def tails(self, piece, end):
        """Ahead of which places of the other log none, one, two or more of a piece's last letters can stand.

        What is between these letters, and up to the end, is idle.
        """
        found = [1 << end]
        for letter in piece[::-1]:
            found.append(self.mirror.past(found[-1], letter))
        return found

    def texts(self, rest, places, tails, end):
        """Texts, not all, if the first log has all of a piece but the rest, which leads to the places."""
        if not rest:
            return [self.joined[place, end] for place in bits(places)]
        found = [self.joined[place, ahead] for place in bits(places) for ahead in bits(tails[len(rest)])]
        forth = shortest([self.ways_forth[place] for place in bits(places)])
        if forth is None:
            return found
        for many in range(len(rest)):
            # The other log has so many of the rest, the text the others.
            back = shortest([self.ways_back[ahead] for ahead in bits(tails[many])])
            if back is not None:
                found.append(forth + rest[:len(rest) - many] + back)
        return found
