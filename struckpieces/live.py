"""Live logs: logs that are changed, with answers that are kept as long as they hold."""

from struckpieces.errors import NoNumber, NoPlace, NothingDone, TooMany
from struckpieces.judging import Judge
from struckpieces.kinds import is_index, need_log

MOST_LETTERS = 2000


class Live:
    """A log of at most 2000 letters."""

    def __init__(self, book):
        self.judge = Judge(book)
        self.current = ""
        # For each put, cut and turn that is not taken back: its place, what it took out, what it put in.
        self.deeds = []
        # The answers kept: for knots, pairs (level, index), the tables of their letters.
        self.known = {}
        self.fresh = []

    def put(self, place, text):
        """Puts letters in ahead of a place, or behind the last one."""
        self.need_place(place)
        need_log(text)
        if len(self.current) + len(text) > MOST_LETTERS:
            raise TooMany(MOST_LETTERS)
        self.do(place, "", text)

    def cut(self, place, many):
        """Takes so many letters from a place on out."""
        self.need_place(place)
        if not is_index(len(self.current) - place + 1, many):
            raise NoNumber()
        self.do(place, self.current[place:place + many], "")

    def turn(self, place, text):
        """Exchanges letters from a place on for as many."""
        self.need_place(place)
        need_log(text)
        if place + len(text) > len(self.current):
            raise NoNumber()
        self.do(place, self.current[place:place + len(text)], text)

    def take_back(self):
        """Takes back the last of these that is not taken back."""
        if not self.deeds:
            raise NothingDone()
        place, taken, given = self.deeds.pop()
        self.exchange(place, given, taken)

    def need_place(self, place):
        """Raises NoPlace for what is no number up to that of the letters."""
        if not is_index(len(self.current) + 1, place):
            raise NoPlace()

    def do(self, place, taken, given):
        """Exchanges letters at a place, which can be taken back."""
        self.exchange(place, taken, given)
        self.deeds.append((place, taken, given))

    def exchange(self, place, taken, given):
        """Exchanges letters at a place, and lets the answers go that hold no longer."""
        text = self.current[:place] + given + self.current[place + len(taken):]
        # A knot that is no more would have fewer letters, perhaps none.
        self.known = {
            (level, index): table for (level, index), table in self.known.items()
            if letters_of(text, level, index) == letters_of(self.current, level, index)
        }
        self.current = text

    def whole(self):
        """The log."""
        return self.current

    def idle_now(self):
        """Whether the log is idle; works out all knots whose answers are not kept."""
        self.fresh = []
        if not self.current:
            return True
        top = top_level(len(self.current))
        for level in range(top + 1):
            for index in range(((len(self.current) - 1) >> level) + 1):
                if (level, index) not in self.known:
                    self.known[level, index] = self.worked_out(level, index)
                    self.fresh.append((level, index))
        return self.judge.lets[self.known[top, 0][0]]

    def worked_out(self, level, index):
        """The table of a knot, made of those of the two below, or of its letter."""
        if level == 0:
            return self.judge.steps[self.current[index]]
        left = self.known[level - 1, 2 * index]
        # The last knot of a level may have but one below.
        right = self.known.get((level - 1, 2 * index + 1), self.judge.still())
        return self.judge.linked(left, right)

    def looked(self):
        """The list of the knots that the last idle_now worked out."""
        return list(self.fresh)

    def idle_part(self, begin, end):
        """Whether the letters from a place on to ahead of another one are idle."""
        self.need_place(begin)
        self.need_place(end)
        if begin > end:
            raise NoPlace()
        return self.judge.lets[self.judge.run(0, self.current[begin:end])]

    def least_now(self):
        """How many letters are left at least."""
        # For each standing to which what was struck since the last letter left may lead the fewest letters left.
        fewest = {0: 0}
        for letter in self.current:
            after = {}
            for standing, many in fewest.items():
                further = self.judge.steps[letter][standing]
                after[further] = min(many, after.get(further, many))
            # From standing 0, which is always there, nothing must be struck: so the letter can be left.
            left = 1 + min([many for standing, many in fewest.items() if self.judge.lets[standing]])
            after[0] = min(left, after.get(0, left))
            fewest = after
        return min([many for standing, many in fewest.items() if self.judge.lets[standing]])


def top_level(many):
    """The first level on which one knot holds all of so many letters, one at least."""
    return (many - 1).bit_length()


def letters_of(text, level, index):
    """The letters for which a knot stands."""
    return text[index << level:(index + 1) << level]
