"""One log: all that can be made of it."""

from struckpieces.charts import chart_of, is_stretch, striking_but
from struckpieces.errors import NoNumber, TooMany
from struckpieces.kinds import LONGEST_LOG, is_log, is_within, need_log, need_short, shortest_first
from struckpieces.logs import strikes, struck

MOST_TEXTS = 500


def is_idle(book, log):
    """Whether a log of at most 60 letters comes to the empty one."""
    return is_log(log) and len(log) <= LONGEST_LOG and chart_of(book, log).is_idle()


def idle_striking(book, log):
    """A striking that leaves nothing of a log, or None."""
    return comes_to(book, log, "")


def idle_stretches(book, log):
    """The ascending list of the pairs (from, to) between which a log is idle."""
    need_log(log)
    need_short(log)
    chart = chart_of(book, log)
    many = len(log)
    return [
        (begin, end) for begin in range(many) for end in range(begin + 1, many + 1) if is_stretch(chart, begin, end)
    ]


def comes_to(book, log, other):
    """A striking of a log that leaves the other one, or None."""
    need_log(log)
    need_log(other)
    need_short(log)
    chart = chart_of(book, log)
    kept = _kept(chart, log, other)
    if kept is None:
        return None
    return striking_but(chart.opening, len(log), kept)


def _kept(chart, log, other):
    """The places of a log's letters that can be left as the other one, or None."""
    if len(other) > len(log):
        return None
    # Behind each letter of the other one: the places where it may stand, each with the place of the one ahead.
    trail = [{-1: None}]
    for letter in other:
        trail.append(_next_places(chart, log, trail[-1], letter))
    for place in trail[-1]:
        if is_stretch(chart, place + 1, len(log)):
            return _places_back(trail, place)
    return None


def _next_places(chart, log, places, letter):
    """Where a letter may stand behind one of the places, with idle letters between, each with that place."""
    found = {}
    for ahead in places:
        for place in range(ahead + 1, len(log)):
            if log[place] == letter and place not in found and is_stretch(chart, ahead + 1, place):
                found[place] = ahead
    return found


def _places_back(trail, place):
    """The places on the way to the last one, but for the one ahead of the log."""
    found = []
    for places in reversed(trail):
        if place >= 0:
            found.append(place)
            place = places[place]
    return found[::-1]


def least_left(book, log):
    """The first text, shortest first, to which a log comes."""
    need_log(log)
    need_short(log)
    return "".join([log[place] for place in _least_kept(chart_of(book, log), log)])


def most_struck(book, log):
    """A striking that leaves the first text, shortest first, to which a log comes."""
    need_log(log)
    need_short(log)
    chart = chart_of(book, log)
    return striking_but(chart.opening, len(log), _least_kept(chart, log))


def _least_kept(chart, log):
    """The places of a log's letters that are left as the first text, shortest first."""
    many = len(log)
    # best[begin] is of the letters from there on: how many are left, which, and at which places.
    best = [(0, "", [])]
    for begin in reversed(range(many)):
        found = [(0, "", [])] if is_stretch(chart, begin, many) else []
        for place in range(begin, many):
            if is_stretch(chart, begin, place):
                left, text, places = best[many - place - 1]
                found.append((left + 1, log[place] + text, [place] + places))
        best.append(min(found))
    return best[many][2]


def ends(book, log, most):
    """The list, shortest first, of all texts to which a log comes and in which no piece stands."""
    need_log(log)
    if not is_within(1, MOST_TEXTS, most):
        raise NoNumber()
    need_short(log)
    found = []
    texts = [log]
    seen = {log: True}
    while texts:
        text = texts.pop()
        left = [struck(book, text, strike) for strike in strikes(book, text)]
        if not left:
            found.append(text)
        for other in left:
            if other not in seen:
                seen[other] = True
                texts.append(other)
        if len(seen) > most:
            raise TooMany(most)
    return shortest_first(found)
