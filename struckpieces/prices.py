"""What it costs to strike a log to nothing."""

from struckpieces.charts import striking_but
from struckpieces.errors import NoPrices
from struckpieces.kinds import is_within, need_log, need_short

GREATEST_PRICE = 1000


def cheapest(book, log, prices):
    """The pair of the least price of a striking that leaves nothing, and such a one, or None."""
    _need_prices(book, log, prices)
    return _least(book, log, list(prices))


def dearest(book, log, prices):
    """The pair of the greatest price of a striking that leaves nothing, and such a one, or None."""
    _need_prices(book, log, prices)
    found = _least(book, log, [-price for price in prices])
    if found is None:
        return None
    price, striking = found
    return -price, striking


def many_strikes(book, log):
    """The pair of the least and the greatest number of strikes that leave nothing of a log, or None."""
    ones = (1,) * len(book.pieces)
    least = cheapest(book, log, ones)
    if least is None:
        return None
    return least[0], dearest(book, log, ones)[0]


def _need_prices(book, log, prices):
    """Raises the error that is due for a log or prices."""
    need_log(log)
    if not isinstance(prices, tuple) or len(prices) != len(book.pieces):
        raise NoPrices()
    if not all([is_within(0, GREATEST_PRICE, price) for price in prices]):
        raise NoPrices()
    need_short(log)


def _least(book, log, prices):
    """The pair of the least price of a striking that leaves nothing, and such a one, or None; prices may be below 0."""
    many = len(log)
    # stretches[begin] has for each place where an idle stretch from there on ends: (price, number, cuts), the
    # piece that takes its first letter and the places of this piece's letters.
    stretches = [{} for _ in range(many + 1)]
    for begin in reversed(range(many + 1)):
        stretches[begin] = _stretches_from(book, log, prices, stretches, begin)
    if many not in stretches[0]:
        return None
    striking = striking_but(lambda begin, end: stretches[begin][end][1:], many, [])
    return stretches[0][many][0], striking


def _stretches_from(book, log, prices, stretches, begin):
    """The cheapest idle stretches from a place on, those from all later places being known."""
    found = {begin: (0, -1, ())}
    for number, piece in enumerate(book.pieces):
        if not log.startswith(piece[0], begin):
            continue
        trail = {begin + 1: (prices[number], (begin,))}
        for letter in piece[1:]:
            trail = _lengthened(log, stretches, trail, letter)
        for place, (price, cuts) in trail.items():
            for end, (more, _, _) in stretches[place].items():
                if end not in found or price + more < found[end][0]:
                    found[end] = (price + more, number, cuts)
    return found


def _lengthened(log, stretches, trail, letter):
    """Behind which places one letter more of a piece can stand, at what price, idle stretches between being struck."""
    found = {}
    for place, (price, cuts) in trail.items():
        for end, (more, _, _) in stretches[place].items():
            if log.startswith(letter, end) and (end + 1 not in found or price + more < found[end + 1][0]):
                found[end + 1] = (price + more, cuts + (end,))
    return found
