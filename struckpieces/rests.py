"""Whether logs have one rest, whatever is struck first."""

from struckpieces.charts import chart_of, is_stretch
from struckpieces.free import free_steps
from struckpieces.kinds import shortest_first


def one_rest(book):
    """A triple of the first log, shortest first, that has two rests or more, and the first two of its ends; or None."""
    steps = free_steps(book)
    # By THE FACT OF RESTS the first such log is a meeting.
    for log in meetings(book):
        ends = _first_ends(book, steps, log)
        if len(ends) > 1:
            return log, ends[0], ends[1]
    return None


def meetings(book):
    """The list, shortest first, of all logs in which two strikes meet that have letters of both."""
    return shortest_first([log for one in book.pieces for other in book.pieces for log in _meetings_of(one, other)])


def _meetings_of(one, other):
    """The list of the logs in which the one piece stands ahead, or around, and the other one behind, or within."""
    found = [
        one + other[common:] for common in range(1, min(len(one), len(other)) + 1) if one.endswith(other[:common])
    ]
    if one == other:
        # All letters in common are one strike.
        return found[:-1]
    return found + [one] if other in one else found


def _first_ends(book, steps, log):
    """The first two, shortest first, of the free texts to which a log of own letters comes; one if there is one."""
    chart = chart_of(book, log)
    # For each place what is left ahead of it if the letter ahead of it is: texts, by the endings of free_steps.
    left = [{"": [""]}]
    for place in range(len(log)):
        left.append(_left_up_to(chart, steps, log, left))
    every = [
        text for begin in range(len(log) + 1) if is_stretch(chart, begin, len(log))
        for texts in list(left[begin].values()) for text in texts
    ]
    return shortest_first(every)[:2]


def _left_up_to(chart, steps, log, left):
    """For each ending the first two free texts that are left if the next letter is the last of them."""
    place = len(left) - 1
    found = {}
    for begin in range(place + 1):
        if not is_stretch(chart, begin, place):
            continue
        for ending, texts in left[begin].items():
            if log[place] in steps[ending]:
                after = steps[ending][log[place]]
                longer = [text + log[place] for text in texts]
                # What comes behind texts with one ending is the same, so later ones are never among the first two.
                found[after] = shortest_first(found.get(after, []) + longer)[:2]
    return found
