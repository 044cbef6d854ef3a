"""Point 12.1: cleaners that hurry. Example e10."""

from unittest import mock

from struckpieces import piles
from struckpieces.books import Book, letters
from struckpieces.errors import NoLog, NotEnough, TooMany
from struckpieces.finding import least_machine
from struckpieces.free import is_enough
from struckpieces.logs import left_by
from struckpieces.piles import hurried, hurried_striking, is_safe, lost, unsafe_log
from struckpieces.rests import one_rest
from struckpieces.tables import is_idle, least_left
from tests.cases import Case
from tests.plain import AB, ABBA, BB, HUGE, K, NESTS, random_book, seeded, texts
from tests.things import not_logs

FEW = {"a": 14, "ab": 9, "abc": 6, "abcd": 5, "abcdefgh": 3}


def laid(book, log):
    """The pile and the striking, letter by letter, each letter knowing its place in the log."""
    pile = []
    struck = 0
    striking = []
    for at, letter in enumerate(log):
        pile.append(letter)
        again = True
        while again:
            again = False
            for number, piece in enumerate(book.pieces):
                if pile[-len(piece):] == list(piece):
                    del pile[-len(piece):]
                    struck += len(piece)
                    striking.append((at + 1 - struck, number))
                    again = True
                    break
    return "".join(pile), tuple(striking)


def books():
    yield from (BB, AB, K, NESTS, ABBA, Book(("aab", "ab", "bb", "aa")), Book(("aa", "aaa")), Book(tuple("abcdefgh")))
    chance = seeded(151)
    for _ in range(120):
        yield random_book(chance, chance.choice(["a", "ab", "ab", "abc"]), 6, 4, chance.random() < 0.7)


def enough_books():
    for book in books():
        if is_enough(book):
            try:
                yield book, least_machine(book)
            except TooMany:
                pass


def some_logs(book):
    chance = seeded(152)
    yield from texts(letters(book), 4)
    for _ in range(25):
        yield "".join(chance.choice(letters(book) * 3 + "h") for _ in range(chance.randint(5, 60)))


class TestExample(Case):

    def test_e10(self):
        self.assertEqual(hurried(K, "aab"), "b")


class TestPiles(Case):

    def test_letter_by_letter(self):
        for book in books():
            for log in some_logs(book):
                pile, striking = laid(book, log)
                self.assertEqual(hurried(book, log), pile)
                self.assertEqual(hurried_striking(book, log), striking, (book.pieces, log))
                self.assertEqual(left_by(book, log, striking), pile)

    def test_by_hand(self):
        self.assertEqual(hurried_striking(K, "aab"), ((0, 0),))
        self.assertEqual(hurried_striking(AB, "aabbab"), ((1, 0), (0, 0), (0, 0)))
        self.assertEqual(hurried_striking(AB, "bahabb"), ((3, 0),))
        self.assertEqual((hurried(AB, "bahabb"), hurried(AB, ""), hurried_striking(AB, "")), ("bahb", "", ()))
        # The least number, not the longest piece, and one that never has its turn.
        self.assertEqual(hurried_striking(Book(("bb", "abb", "b")), "abb"), ((1, 2), (1, 2)))
        self.assertEqual(hurried_striking(Book(("cb", "acb")), "acb"), ((1, 0),))
        self.assertEqual(hurried_striking(Book(("acb", "cb")), "acb"), ((0, 0),))
        self.assertEqual(hurried(Book(("acb", "cb")), "cacb"), "c")

    def test_long_logs(self):
        self.assertEqual(hurried(AB, "a" * 10000 + "b" * 10000), "")
        self.assertEqual(hurried_striking(AB, "a" * 3 + "b" * 3 + "ab" * 9997)[:5], ((2, 0), (1, 0), (0, 0), (0, 0), (0, 0)))
        self.assertEqual(len(hurried(AB, "b" * 10000 + "a" * 10000)), 20000)
        self.assertEqual(hurried(Book(("a",)), "a" * 20000), "")

    def test_lost(self):
        some = 0
        for book in books():
            for log in some_logs(book):
                told = lost(book, log)
                self.assertIs(type(told), int)
                self.assertEqual(told, len(laid(book, log)[0]) - len(least_left(book, log)))
                some += told > 0
        self.assertGreater(some, 200)
        self.assertEqual(lost(K, "aab"), 0)
        self.assertEqual(lost(K, "aaba"), 2)
        self.assertEqual(lost(AB, "h" + "ab" * 29 + "a"), 0)

    def test_sixty_letters_and_more(self):
        self.assertEqual(lost(K, "aaba" * 15), len(laid(K, "aaba" * 15)[0]))
        for log in ("a" * 61, "ab" * 31, "h" * 61, "a" * 20000):
            for book in (AB, K, HUGE):
                self.too_many(60, lost, book, log)

    def test_no_log(self):
        for thing in not_logs():
            for call in (hurried, hurried_striking, lost):
                self.refused(NoLog, call, AB, thing)
                self.refused(NoLog, call, HUGE, thing)


def first_unsafe(book, most):
    for log in texts(letters(book), most):
        if is_idle(book, log) and laid(book, log)[0]:
            return log
    return None


def pairs_up_to(book, machine, long):
    """The pairs of pile and standing of all texts of at most so many letters, or of all texts."""
    found = {("", 0)}
    level = {("", 0)}
    while level and long != 0:
        after = set()
        for pile, standing in level:
            for sign, letter in enumerate(machine.signs):
                after.add((laid(book, pile + letter)[0], machine.rows[standing][sign]))
        level = after - found
        found |= level
        long = None if long is None else long - 1
    return found


class TestUnsafeLogs(Case):

    def test_against_all_texts(self):
        kinds = {None: 0, "found": 0}
        for book, _ in enough_books():
            own = letters(book)
            told = unsafe_log(book)
            first = first_unsafe(book, FEW[own])
            self.flagged(told is None, is_safe, book)
            if first is None:
                self.assertTrue(told is None or len(told) > FEW[own])
                kinds[None] += 1
            else:
                self.assertEqual(told, first, book.pieces)
                kinds["found"] += 1
            if told is not None:
                self.flagged(True, is_idle, book, told)
                self.assertNotEqual(laid(book, told)[0], "")
        self.assertGreater(min(kinds.values()), 20)

    def test_how_many_pairs(self):
        counts = {}
        for book, machine in enough_books():
            told = unsafe_log(book)
            many = len(pairs_up_to(book, machine, None if told is None else len(told)))
            with mock.patch.object(piles, "MOST_PAIRS", many):
                self.assertEqual(unsafe_log(book), told)
            with mock.patch.object(piles, "MOST_PAIRS", many - 1):
                self.too_many(many - 1, unsafe_log, book)
                self.too_many(many - 1, is_safe, book)
            counts[many] = True
        self.assertGreater(len(counts), 10)
        self.assertEqual(piles.MOST_PAIRS, 3000)

    def test_none_for_all_pairs(self):
        for book, machine in enough_books():
            if unsafe_log(book) is None:
                for pile, standing in pairs_up_to(book, machine, None):
                    self.assertFalse(pile and machine.lets[standing])

    def test_the_fact_of_piles(self):
        found = 0
        for book in books():
            if one_rest(book) is None:
                if is_enough(book):
                    self.flagged(True, is_safe, book)
                    found += 1
                for log in some_logs(book):
                    self.assertEqual(lost(book, log), 0)
        self.assertGreater(found, 10)

    def test_by_hand(self):
        self.assertEqual(unsafe_log(K), "aaba")
        self.assertIsNone(unsafe_log(BB))
        self.assertEqual(unsafe_log(Book(("a" * 7, "a" * 8))), "a" * 8)
        self.assertEqual(unsafe_log(Book(("a" * 8, "a" * 5))), "a" * 8)
        self.assertIsNone(unsafe_log(Book(tuple("abcdefgh"))))

    def test_not_enough(self):
        for book in (AB, NESTS, Book(("abcdefgh",)), Book(("aa", "bbb"))):
            if not is_enough(book):
                self.refused(NotEnough, unsafe_log, book)
                self.refused(NotEnough, is_safe, book)

    def test_more_than_sixty_standings(self):
        self.too_many(60, unsafe_log, HUGE)
        self.too_many(60, is_safe, HUGE)
