"""Weights of letters: what shows that a log is not idle."""

from struckpieces.books import letters
from struckpieces.errors import NoFraction, NoLetter, NoLog, NoWeights
from struckpieces.kinds import is_text
from struckpieces.ratios import is_fraction, ratio, ratio_sum
from struckpieces.solving import solved


def is_weights(book, thing):
    """Whether a thing is a dict that has just the own letters as keys, with fractions."""
    own = letters(book)
    if not isinstance(thing, dict) or len(thing) != len(own):
        return False
    return all([letter in thing and is_fraction(thing[letter]) for letter in own])


def is_fitting(book, thing):
    """Whether a thing is weights by which no piece's weight is below 0."""
    if not is_weights(book, thing):
        return False
    return all([_weight(thing, piece)[0] >= 0 for piece in book.pieces])


def weight(book, weights, text):
    """The weight of a text of own letters, a fraction."""
    if not is_weights(book, weights):
        raise NoWeights()
    _need_own(book, text)
    return _weight(weights, text)


def _weight(weights, text):
    """The weight of a text that has only letters that have weights."""
    return ratio_sum([(text.count(letter), weights[letter]) for letter in weights])


def _need_own(book, thing):
    """Raises NoLog for what is no text of own letters."""
    if not is_text(letters(book), thing):
        raise NoLog()


def barring(book, log):
    """Fitting weights by which a log's weight is below 0, or None."""
    _need_own(book, log)
    _, found = _solved(book, log)
    if found is None:
        return None
    return dict(zip(letters(book), found))


def shares(book, log):
    """A fraction from 0 on for each piece, so many times which they have just the letters of a log, or None."""
    _need_own(book, log)
    found, _ = _solved(book, log)
    if found is None:
        return None
    return tuple(found)


def _solved(book, log):
    """The pair of how many times each piece makes up a log's letters, and each letter's weight that bars this."""
    own = letters(book)
    columns = [[piece.count(letter) for letter in own] for piece in book.pieces]
    return solved(columns, [log.count(letter) for letter in own])


def is_shares(book, log, thing):
    """Whether a thing is a fraction from 0 on for each piece, so many times which they have a log's letters."""
    _need_own(book, log)
    if not _is_times(book, thing):
        return False
    return all([_letters_of(book, letter, thing) == (log.count(letter), 1) for letter in letters(book)])


def _is_times(book, thing):
    """Whether a thing is a tuple of a fraction from 0 on for each piece."""
    if not isinstance(thing, tuple) or len(thing) != len(book.pieces):
        return False
    return all([is_fraction(times) and times[0] >= 0 for times in thing])


def _letters_of(book, letter, times):
    """How many of a letter the pieces, so many times each, have together."""
    return ratio_sum([(piece.count(letter), many) for piece, many in zip(book.pieces, times)])


def _need_letter(book, letter):
    """Raises NoLetter for what is no own letter."""
    if not is_text(letters(book), letter) or len(letter) != 1:
        raise NoLetter()


def _tightest(book, letter):
    """The number of the first piece of which the letter makes up most."""
    best = None
    for number, piece in enumerate(book.pieces):
        if best is None:
            best = number
            continue
        other = book.pieces[best]
        if piece.count(letter) * len(other) > other.count(letter) * len(piece):
            best = number
    return best


def least_weight(book, letter):
    """The least number that a letter can have over fitting weights up to 1, and such weights."""
    _need_letter(book, letter)
    # With less of another letter this one would need more; so the others have 1, and one piece sets the bound.
    piece = book.pieces[_tightest(book, letter)]
    many = piece.count(letter)
    number = ratio(many - len(piece), many)
    weights = {other: (1, 1) for other in letters(book)}
    weights[letter] = number
    return number, weights


def bound(book, letter):
    """For each piece a fraction from 0 on that together show that a letter can't have less than its least weight."""
    _need_letter(book, letter)
    tightest = _tightest(book, letter)
    times = [(0, 1)] * len(book.pieces)
    times[tightest] = ratio(1, book.pieces[tightest].count(letter))
    return tuple(times)


def is_bound(book, letter, number, thing):
    """Whether a thing shows that a letter can't have less than the number."""
    _need_letter(book, letter)
    if not is_fraction(number):
        raise NoFraction()
    if not _is_times(book, thing):
        return False
    top, bottom = _letters_of(book, letter, thing)
    whole = ratio_sum([(len(piece), many) for piece, many in zip(book.pieces, thing)])
    return top >= bottom and whole == ratio_sum([(1, (1, 1)), (-1, number)])
