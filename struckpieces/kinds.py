"""Of what kind an object is, for all modules."""

from struckpieces.errors import NoLog

LETTERS = "abcdefgh"


def is_integer(thing):
    """Whether a thing is an integer; True and False are none."""
    return isinstance(thing, int) and not isinstance(thing, bool)


def is_index(many, thing):
    """Whether a thing is one of the numbers from 0 to below many."""
    return is_integer(thing) and 0 <= thing < many


def is_log(thing):
    """Whether a thing is a string of letters, perhaps empty."""
    return isinstance(thing, str) and all([sign in LETTERS for sign in thing])


def need_log(thing):
    """Raises NoLog for what is no log."""
    if not is_log(thing):
        raise NoLog()
