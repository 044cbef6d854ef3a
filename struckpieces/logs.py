"""Logs, and what strikes leave of them."""

from struckpieces.errors import NoPiece, NoPlace, NoStrike, NoStriking
from struckpieces.kinds import is_index, need_log


def strikes(book, log):
    """The ascending list of all strikes, pairs (place, number), of a log."""
    need_log(log)
    return [
        (place, number)
        for place in range(len(log))
        for number, piece in enumerate(book.pieces)
        if log.startswith(piece, place)
    ]


def struck(book, log, strike):
    """The log without the piece that the strike takes."""
    need_log(log)
    if not _is_strike(book, log, strike):
        raise NoStrike()
    return _without(book, log, strike)


def left_by(book, log, striking):
    """What a striking, a tuple of strikes one behind another, leaves of a log."""
    need_log(log)
    if not isinstance(striking, tuple):
        raise NoStriking(-1)
    left = log
    for at, strike in enumerate(striking):
        if not _is_strike(book, left, strike):
            raise NoStriking(at)
        left = _without(book, left, strike)
    return left


def is_striking(book, log, thing):
    """Whether a thing is a striking of a log."""
    try:
        left_by(book, log, thing)
    except NoStriking:
        return False
    return True


def put_in(book, log, place, number):
    """The log with a piece put in ahead of the letter with this place, or behind the last one."""
    need_log(log)
    if not is_index(len(log) + 1, place):
        raise NoPlace()
    if not is_index(len(book.pieces), number):
        raise NoPiece()
    return log[:place] + book.pieces[number] + log[place:]


def _is_strike(book, log, thing):
    """Whether a thing is a strike of a log."""
    if not isinstance(thing, tuple) or len(thing) != 2:
        return False
    place, number = thing
    if not is_index(len(log), place) or not is_index(len(book.pieces), number):
        return False
    return log.startswith(book.pieces[number], place)


def _without(book, log, strike):
    """The log without the piece of a strike that it has."""
    place, number = strike
    return log[:place] + log[place + len(book.pieces[number]):]
