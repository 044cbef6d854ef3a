"""Strikes that change nothing of what a log tells, whatever is written behind it."""

from struckpieces.books import letters
from struckpieces.errors import TooMany
from struckpieces.judging import Judge
from struckpieces.kinds import need_log
from struckpieces.logs import strikes, struck
from struckpieces.sweeping import Sweep

MOST_KEPT = 2000


def is_harmless(book, log, strike):
    """Whether a log and what a strike leaves of it are idle with just the same texts behind them."""
    return harm(book, log, strike) is None


def harm(book, log, strike):
    """The first text, shortest first, behind which just one of a log and what a strike leaves is idle, or None."""
    judge = Judge(book)
    left = struck(book, log, strike)
    return judge.parting(judge.run(0, log), judge.run(0, left))


def harmless_strikes(book, log):
    """The ascending list of the harmless strikes of a log."""
    judge = Judge(book)
    found = strikes(book, log)
    standings = [0]
    for letter in log:
        standings.append(judge.run(standings[-1], letter))
    # tables[many] is of the last so many letters.
    tables = [judge.still()]
    for letter in reversed(list(log)):
        tables.append(judge.linked(judge.steps[letter], tables[-1]))
    return [
        (place, number) for place, number in found
        if tables[len(log) - place - len(book.pieces[number])][standings[place]] == standings[-1]
    ]


def cleaned(book, log):
    """The pair of the striking that always takes the least harmless strike, until there is none, and what it leaves."""
    judge = Judge(book)
    need_log(log)
    sweep = Sweep(judge, book.pieces, [(place, letter, None) for place, letter in enumerate(log)], [])
    striking = tuple([(place, number) for place, number, _ in sweep.swept()])
    return striking, "".join([letter for _, letter, _ in sweep.rest()])


def kept_logs(book):
    """The list, shortest first, of all logs of own letters that have no harmless strike."""
    judge = Judge(book)
    found = []
    # A strike that is harmless stays so with more letters behind, so a kept log is a kept one with a letter more.
    # With each: the standings behind each of its beginnings, and those to which its strikes lead.
    logs = [("", (0,), ())]
    while logs:
        found += [log for log, _, _ in logs]
        if len(found) > MOST_KEPT:
            raise TooMany(MOST_KEPT)
        longer = [_longer(judge, book.pieces, kept, letter) for kept in logs for letter in letters(book)]
        logs = [(log, standings, left) for log, standings, left in longer if standings[-1] not in left]
    return found


def _longer(judge, pieces, kept, letter):
    """A log with a letter more, the standings behind its beginnings, and those to which its strikes lead."""
    log, standings, left = kept
    longer = log + letter
    trail = standings + (judge.run(standings[-1], letter),)
    ends = [judge.run(standing, letter) for standing in left]
    ends += [trail[len(longer) - len(piece)] for piece in pieces if longer.endswith(piece)]
    return longer, trail, tuple(sorted(set(ends)))
