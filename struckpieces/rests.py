"""Whether logs have one rest, whatever is struck first."""

from struckpieces.charts import chart_of, is_stretch
from struckpieces.kinds import shortest_first


def one_rest(book):
    """A triple of the first log, shortest first, that has two rests or more, and the first two of its ends; or None."""
    # By THE FACT OF RESTS the first such log is a meeting, so that ahead of it all logs have one rest.
    for log in meetings(book):
        ends = _ends(book, log)
        if len(ends) > 1:
            return log, ends[0], ends[1]
    return None


def meetings(book):
    """The list, shortest first, of all logs in which two strikes meet that have letters of both."""
    return shortest_first([log for one in book.pieces for other in book.pieces for log in _meetings_of(one, other)])


def _meetings_of(one, other):
    """The list of the logs in which the one piece stands ahead, or around, and the other one behind, or within."""
    found = [
        one + other[common:] for common in range(1, min(len(one), len(other)) + 1) if one.endswith(other[:common])
    ]
    if one == other:
        # All letters in common are one strike.
        return found[:-1]
    return found + [one] if other in one else found


def _ends(book, log):
    """The list, shortest first, of the free texts to which a log comes, all shorter logs having one rest."""
    chart = chart_of(book, log)
    ends = [""]
    # The rests of the log's beginnings.
    rests = [""]
    for place, letter in enumerate(log):
        # The last letter is left, or it ends an idle stretch, ahead of which all is left as by itself.
        ends = [rests[begin] for begin in range(place + 1) if is_stretch(chart, begin, place + 1)]
        if not any([(rests[place] + letter).endswith(piece) for piece in book.pieces]):
            ends.append(rests[place] + letter)
        ends = shortest_first(ends)
        rests.append(ends[0])
    return ends
