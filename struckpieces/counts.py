"""How many texts a machine lets by, and their numbers."""

from struckpieces.books import letters
from struckpieces.charts import chart_of
from struckpieces.errors import NoIndex, NoNumber, NotEnough, NotLet, NoText, TooMany
from struckpieces.finding import least_machine
from struckpieces.kinds import is_index, is_text, is_within
from struckpieces.machines import least, lets_by

LONGEST_COUNTED = 2000
LONGEST_IDLE = 60
MOST_TEXTS = 20000
STRIDE = 50


class Tally:
    """For each number of signs up to many how many texts of so many are let by from each standing.

    Only each fiftieth of these lists is stored, and those behind one of them are made anew when they are asked for:
    all of them, of 2000 signs, would be long lists of long numbers.
    """

    def __init__(self, machine, many):
        self.rows = machine.rows
        self.stored = [[int(let) for let in machine.lets]]
        for _ in range(many // STRIDE):
            self.stored.append(self.continued(self.stored[-1], STRIDE)[-1])
        self.which = 0
        self.stretch = self.continued(self.stored[0], STRIDE - 1)

    def continued(self, counts, many):
        """The list of counts and of those for one sign more, two more, up to so many more."""
        found = [counts]
        for _ in range(many):
            counts = found[-1]
            found.append([sum([counts[after] for after in row]) for row in self.rows])
        return found

    def counts(self, many):
        """How many texts of so many signs are let by from each standing."""
        which, at = divmod(many, STRIDE)
        if which != self.which:
            self.which = which
            self.stretch = self.continued(self.stored[which], STRIDE - 1)
        return self.stretch[at]


def _need_many(many):
    """Raises NoNumber for what is no number up to 2000."""
    if not is_within(0, LONGEST_COUNTED, many):
        raise NoNumber()


def count(machine, many):
    """How many texts of so many signs a machine lets by."""
    _need_many(many)
    return Tally(least(machine), many).counts(many)[0]


def text_at(machine, many, index):
    """The text with this number among those of so many signs that a machine lets by, ascending."""
    _need_many(many)
    shrunk = least(machine)
    tally = Tally(shrunk, many)
    if not is_index(tally.counts(many)[0], index):
        raise NoIndex()
    text = []
    standing = 0
    for left in reversed(range(many)):
        counts = tally.counts(left)
        row = shrunk.rows[standing]
        sign = 0
        while index >= counts[row[sign]]:
            index -= counts[row[sign]]
            sign += 1
        text.append(shrunk.signs[sign])
        standing = row[sign]
    return "".join(text)


def index_of(machine, text):
    """The number of a text among those of as many signs that a machine lets by, ascending."""
    if not is_text(machine.signs, text):
        raise NoText()
    if not lets_by(machine, text):
        raise NotLet()
    shrunk = least(machine)
    # How many texts ahead of what was read, of as many signs, lead to each standing.
    ahead = [0] * len(shrunk.rows)
    standing = 0
    for letter in text:
        sign = shrunk.signs.index(letter)
        ahead = _one_longer(shrunk.rows, ahead)
        for after in shrunk.rows[standing][:sign]:
            ahead[after] += 1
        standing = shrunk.rows[standing][sign]
    return sum([many for many, let in zip(ahead, shrunk.lets) if let])


def _one_longer(rows, counts):
    """To how many texts of one sign more each standing belongs, the counts telling of those of one less."""
    longer = [0] * len(rows)
    for row, many in zip(rows, counts):
        if many:
            for after in row:
                longer[after] += many
    return longer


def idle_count(book, many):
    """How many idle logs of own letters have so many letters."""
    if not is_within(0, LONGEST_IDLE, many):
        raise NoNumber()
    machine = _machine_of(book)
    if machine is not None:
        return count(machine, many)
    own = letters(book)
    _need_few(len(own), many)
    charts = [chart_of(book, "")]
    for _ in range(many):
        charts = [chart.grown(letter) for chart in charts for letter in own]
    return len([chart for chart in charts if chart.is_idle()])


def _need_few(signs, many):
    """Raises TooMany if there are more than 20000 texts of so many signs."""
    texts = 1
    for _ in range(many):
        texts *= signs
        if texts > MOST_TEXTS:
            raise TooMany(MOST_TEXTS)


def _machine_of(book):
    """The least machine of a book, None for a book that is not enough or whose least machine has too many standings."""
    try:
        return least_machine(book)
    except (NotEnough, TooMany):
        return None
