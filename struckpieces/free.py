"""Free texts: texts of own letters in which no piece stands."""

from struckpieces.books import letters
from struckpieces.errors import NoNumber, NotEnough, TooMany
from struckpieces.exploring import first_texts
from struckpieces.kinds import is_text, is_within

MOST_FREE = 3000
LONGEST_COUNTED = 1000
# A piece has at most 8 letters, so one that begins in the first of so many rounds ends in them, too.
ROUNDS = 8


def free_steps(book):
    """For each ENDING a dict: for each own letter that keeps a free text with this ending free, the next ending.

    An ending is the most that stands at the end of a text and begins a piece, so it tells all that matters.
    """
    beginnings = {piece[:long]: True for piece in book.pieces for long in range(len(piece))}
    steps = {"": {}}
    found = [""]
    while found:
        ending = found.pop()
        for letter in letters(book):
            longer = ending + letter
            if any([longer.endswith(piece) for piece in book.pieces]):
                continue
            while longer not in beginnings:
                longer = longer[1:]
            steps[ending][letter] = longer
            if longer not in steps:
                steps[longer] = {}
                found.append(longer)
    return steps


def _endings_by_length(steps):
    """For each number of letters the endings of the free texts of so many; of a book that is not enough up to one
    more letters than there are endings."""
    found = []
    endings = {"": True}
    while endings and len(found) <= len(steps):
        found.append(endings)
        endings = {after: True for ending in endings for after in list(steps[ending].values())}
    return found


def is_enough(book):
    """Whether the free texts are finitely many."""
    steps = free_steps(book)
    # A longer text comes to an ending twice, so its middle may be repeated.
    return len(_endings_by_length(steps)) <= len(steps)


def free_texts(book):
    """The list, shortest first, of all free texts."""
    if not is_enough(book):
        raise NotEnough()
    steps = free_steps(book)
    found = []
    texts = [("", "")]
    while texts:
        found += [text for text, _ in texts]
        if len(found) > MOST_FREE:
            raise TooMany(MOST_FREE)
        texts = [(text + letter, steps[ending][letter]) for text, ending in texts for letter in steps[ending]]
    return found


def longest_free(book):
    """How many letters the longest free text has."""
    steps = free_steps(book)
    found = _endings_by_length(steps)
    if len(found) > len(steps):
        raise NotEnough()
    return len(found) - 1


def free_count(book, many):
    """How many free texts have just so many letters."""
    if not is_within(0, LONGEST_COUNTED, many):
        raise NoNumber()
    steps = free_steps(book)
    counts = {"": 1}
    for _ in range(many):
        longer = {}
        for ending, count in counts.items():
            for after in list(steps[ending].values()):
                longer[after] = longer.get(after, 0) + count
        counts = longer
    return sum(list(counts.values()))


def endless(book):
    """A pair (front, round) such that front and the round as often as one likes is free, or None."""
    steps = free_steps(book)
    fronts = _ways(steps, "")
    best = None
    for ending in steps:
        again = _way_back(steps, ending)
        # Short rounds make for short refutals.
        if again is not None and (best is None or len(again) < len(best[1])):
            best = (fronts[ending], again)
    return best


def _ways(steps, start):
    """For each ending to which letters lead from the start, the shortest such letters."""
    return first_texts(start, lambda ending: list(steps[ending].items()))


def _way_back(steps, ending):
    """The shortest letters, one at least, that lead from an ending to itself, or None."""
    ways = _ways(steps, ending)
    found = [ways[ahead] + letter for ahead in ways for letter, after in steps[ahead].items() if after == ending]
    if not found:
        return None
    return min(found, key=len)


def is_endless(book, thing):
    """Whether a thing is a pair (front, round) of which all free texts are made that way."""
    if not isinstance(thing, tuple) or len(thing) != 2:
        return False
    own = letters(book)
    front, again = thing
    if not is_text(own, front) or not is_text(own, again) or not again:
        return False
    text = front + again * ROUNDS
    return not any([piece in text for piece in book.pieces])
