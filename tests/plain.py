"""Plain ways of reckoning, to hold the program's answers against, and books and machines to ask about."""

import itertools
import random

from struckpieces.books import Book, letters
from struckpieces.machines import Machine

BB = Book(("a", "bb"))
AB = Book(("ab",))
K = Book(("aa", "bb", "ab"))
NESTS = Book(("a", "aa", "aba", "b", "c", "abcab"))
ABBA = Book(("aba", "bb", "abb", "aa"))
# It is enough, and its least machine has more than 60 standings.
HUGE = Book(("ccc", "ccb", "bc", "bb", "a", "ca", "bbb", "cab", "bcb"))


def texts(signs, most):
    """All texts of at most so many signs, shortest first."""
    for many in range(most + 1):
        for text in itertools.product(signs, repeat=many):
            yield "".join(text)


def shortest_first(found):
    return sorted(found, key=lambda text: (len(text), text))


def strikes_in(book, log):
    """The strikes, letter by letter."""
    found = []
    for place in range(len(log)):
        for number in range(len(book.pieces)):
            piece = book.pieces[number]
            stands = [place + k < len(log) and log[place + k] == piece[k] for k in range(len(piece))]
            if all(stands):
                found.append((place, number))
    return found


def left(book, log, strike):
    place, number = strike
    return log[:place] + log[place + len(book.pieces[number]):]


def one_struck(book, log):
    """What single strikes leave."""
    return [left(book, log, strike) for strike in strikes_in(book, log)]


def comes_to_all(book, log):
    """All texts to which a log comes, going through all strikes."""
    found = {log}
    ways = [log]
    while ways:
        for other in one_struck(book, ways.pop()):
            if other not in found:
                found.add(other)
                ways.append(other)
    return found


def idle_logs(book, most):
    """All idle logs of at most so many letters, putting pieces in."""
    found = {""}
    ways = [""]
    while ways:
        log = ways.pop()
        for piece in book.pieces:
            if len(log) + len(piece) > most:
                continue
            for place in range(len(log) + 1):
                longer = log[:place] + piece + log[place:]
                if longer not in found:
                    found.add(longer)
                    ways.append(longer)
    return found


def does_let(machine, text):
    standing = 0
    for sign in text:
        standing = machine.rows[standing][machine.signs.index(sign)]
    return machine.lets[standing]


def has_piece(book, text):
    return any(piece in text for piece in book.pieces)


def random_book(chance, signs, pieces=6, longest=4, powers=False):
    """A book that has just these letters; with powers of each of them if wanted."""
    while True:
        found = {sign * chance.randint(1, 3) for sign in signs} if powers else set()
        for _ in range(chance.randint(1, pieces)):
            found.add("".join(chance.choice(signs) for _ in range(chance.randint(1, longest))))
        found = sorted(found)[:12]
        chance.shuffle(found)
        book = Book(tuple(found))
        if letters(book) == signs:
            return book


def random_machine(chance, signs, standings, letting=0.5):
    rows = tuple(tuple(chance.randrange(standings) for _ in signs) for _ in range(standings))
    return Machine(signs, rows, tuple(chance.random() < letting for _ in rows))


def counter(signs, many, lets=(0,)):
    """A machine that counts its signs round a circle."""
    rows = tuple(((at + 1) % many,) * len(signs) for at in range(many))
    return Machine(signs, rows, tuple(at in lets for at in range(many)))


def only(signs, text):
    """A machine that lets just one text by."""
    many = len(text)
    rows = [tuple(at + 1 if sign == text[at] else many + 1 for sign in signs) for at in range(many)]
    rows += [(many + 1,) * len(signs)] * 2
    return Machine(signs, tuple(rows), tuple(at == many for at in range(many + 2)))


def is_least(machine):
    """Whether all standings are come to, numbered so, and no two let by the same."""
    numbers = [0]
    for standing in numbers:
        for after in machine.rows[standing]:
            if after not in numbers:
                numbers.append(after)
    if numbers != list(range(len(machine.rows))):
        return False
    parts = list(machine.lets)
    while True:
        told = [(parts[at],) + tuple(parts[after] for after in row) for at, row in enumerate(machine.rows)]
        if len(set(told)) == len(set(parts)):
            return len(set(parts)) == len(parts)
        parts = told


def seeded(number):
    return random.Random(number)
