"""Of what kind an object is, and how texts are ordered, for all modules."""

from struckpieces.errors import NoLog, TooMany

LETTERS = "abcdefgh"
LONGEST_LOG = 60


def is_integer(thing):
    """Whether a thing is an integer; True and False are none."""
    return isinstance(thing, int) and not isinstance(thing, bool)


def is_index(many, thing):
    """Whether a thing is one of the numbers from 0 to below many."""
    return is_integer(thing) and 0 <= thing < many


def is_within(least, greatest, thing):
    """Whether a thing is one of the integers from the least to the greatest."""
    return is_integer(thing) and least <= thing <= greatest


def is_text(signs, thing):
    """Whether a thing is a string of these signs, perhaps empty."""
    return isinstance(thing, str) and all([sign in signs for sign in thing])


def is_log(thing):
    """Whether a thing is a string of letters, perhaps empty."""
    return is_text(LETTERS, thing)


def need_log(thing):
    """Raises NoLog for what is no log."""
    if not is_log(thing):
        raise NoLog()


def need_short(log):
    """Raises TooMany for a log of more than 60 letters."""
    if len(log) > LONGEST_LOG:
        raise TooMany(LONGEST_LOG)


def shortest_first(texts):
    """The list of the texts, each once: those of fewer signs first, those of as many ascending."""
    return [text for _, text in sorted(set([(len(text), text) for text in texts]))]
