"""Point 6.3: the machine of a book that is enough. Example e05."""

from struckpieces.books import Book, letters
from struckpieces.errors import NotEnough, NotOwn, TooMany
from struckpieces.finding import gap, is_right, least_machine, stuck
from struckpieces.free import is_enough
from struckpieces.machines import Machine, lets_by, turned
from tests.cases import Case
from tests.plain import AB, ABBA, BB, HUGE, K, counter, does_let, idle_logs, is_least, one_struck, only
from tests.plain import random_book, random_machine, seeded, texts
from tests.things import deep_things, not_logs, odd_things

# 22, 55 and 55 standings.
LARGE = (Book(("aab", "ab", "bb", "aa")), ABBA, Book(("bb", "ae", "cebe", "cd", "a", "ecc", "ccc", "b", "d", "cacc", "e")))
FEW = {"a": 12, "ab": 9, "abc": 6, "abcd": 5, "abcde": 4, "abcdefgh": 3}


def enough_books():
    yield from (BB, K, Book(("a",)), Book(("a" * 8,)), Book(("aaa", "aaaaa")), Book(tuple("abcdefgh"))) + LARGE
    chance = seeded(81)
    for _ in range(120):
        book = random_book(chance, chance.choice(["a", "ab", "ab", "abc", "abcd"]), 6, 4, True)
        if is_enough(book):
            yield book


def found_machines():
    """The books with at most 60 standings, and their machines."""
    for book in enough_books():
        try:
            yield book, least_machine(book)
        except TooMany:
            pass


class TestExample(Case):

    def test_e05(self):
        self.assertEqual(least_machine(BB), Machine("ab", ((0, 1), (1, 0)), (True, False)))


class TestLeastMachine(Case):

    def test_against_pieces_put_in(self):
        many = {}
        for book, machine in found_machines():
            own = letters(book)
            self.assertIs(type(machine), Machine)
            self.assertEqual(machine.signs, own)
            self.assertTrue(is_least(machine))
            self.assertLessEqual(len(machine.rows), 60)
            many[len(machine.rows)] = True
            idle = idle_logs(book, FEW[own])
            for text in texts(own, FEW[own]):
                self.assertIs(does_let(machine, text), text in idle, (book.pieces, text))
        self.assertGreater(len(many), 10)
        self.assertGreater(max(many), 50)

    def test_the_main_fact(self):
        for book, machine in found_machines():
            self.assertTrue(lets_by(machine, ""))
            self.assertIsNone(gap(book, machine))
            self.assertIsNone(stuck(book, machine))
            self.flagged(True, is_right, book, machine)

    def test_shapes(self):
        self.assertEqual(least_machine(Book(("a" * 8,))), counter("a", 8))
        self.assertEqual(least_machine(Book(tuple("abcdefgh"))), Machine("abcdefgh", ((0,) * 8,), (True,)))
        self.assertEqual(least_machine(Book(("aaa", "aaaaa"))).lets, (True, False, False, True, False, True, True, False, True))
        self.assertEqual(least_machine(Book(("b", "a"))), Machine("ab", ((0, 0),), (True,)))

    def test_books_that_are_hard_to_guess(self):
        for pieces in [("aa", "ba", "aaa", "bb"), ("ac", "b", "bb", "cac", "aa", "cc"), ("abb", "bbb", "bba", "a", "aaa")]:
            book = Book(pieces)
            own = letters(book)
            machine = least_machine(book)
            idle = idle_logs(book, FEW[own])
            for text in texts(own, FEW[own]):
                self.assertIs(does_let(machine, text), text in idle)

    def test_not_enough(self):
        for book in (AB, Book(("aa", "bbb")), Book(("abcdefgh",))):
            self.refused(NotEnough, least_machine, book)

    def test_more_than_sixty(self):
        self.assertTrue(is_enough(HUGE))
        self.too_many(60, least_machine, HUGE)


def has_gap(book, machine, most):
    """Whether a text of at most so many signs is let by, but not with a piece in it."""
    for text in texts(machine.signs, most):
        if does_let(machine, text):
            for place in range(len(text) + 1):
                for piece in book.pieces:
                    if not does_let(machine, text[:place] + piece + text[place:]):
                        return True
    return False


def first_stuck(book, machine, most):
    for text in texts(machine.signs, most):
        if text and does_let(machine, text) and not any(does_let(machine, left) for left in one_struck(book, text)):
            return text
    return None


def some_machines():
    """Books with machines of own letters, right, wrong in one standing, and at random."""
    for book, machine in list(found_machines())[:60]:
        yield book, machine
        for standing in range(min(len(machine.rows), 4)):
            lets = list(machine.lets)
            lets[standing] = not lets[standing]
            yield book, Machine(machine.signs, machine.rows, tuple(lets))
    chance = seeded(82)
    for _ in range(300):
        book = random_book(chance, chance.choice(["a", "ab", "abc"]), 6, 3, chance.random() < 0.5)
        yield book, random_machine(chance, letters(book), chance.randint(1, 5), chance.choice([0.1, 0.5, 0.9]))


class TestGapsAndStuckTexts(Case):

    def test_gap(self):
        found = 0
        for book, machine in some_machines():
            told = gap(book, machine)
            if told is None:
                self.assertFalse(has_gap(book, machine, FEW[machine.signs] - 2))
                continue
            found += 1
            self.assertEqual((type(told), len(told)), (tuple, 3))
            front, number, back = told
            self.assertIs(type(number), int)
            self.assertTrue(does_let(machine, front + back))
            self.assertFalse(does_let(machine, front + book.pieces[number] + back))
        self.assertGreater(found, 100)

    def test_stuck(self):
        found = 0
        for book, machine in some_machines():
            most = FEW[machine.signs] - 1
            told = stuck(book, machine)
            first = first_stuck(book, machine, most)
            if first is None:
                self.assertTrue(told is None or len(told) > most)
                continue
            found += 1
            self.assertEqual(told, first, (book.pieces, machine.rows, machine.lets))
        self.assertGreater(found, 100)

    def test_is_right(self):
        rights = 0
        for book, machine in some_machines():
            own = letters(book)
            idle = idle_logs(book, FEW[own])
            wrong = any(does_let(machine, text) != (text in idle) for text in texts(own, FEW[own]))
            if wrong:
                self.flagged(False, is_right, book, machine)
            else:
                right = is_right(book, machine)
                self.assertIs(right, is_enough(book) and lets_by(machine, "") and gap(book, machine) is None
                              and stuck(book, machine) is None)
                rights += right
        self.assertGreater(rights, 30)

    def test_far_stuck_texts(self):
        # All texts but those of some letters that only long ones have.
        self.assertEqual(stuck(Book(("a",)), counter("a", 60)), "a" * 60)
        self.assertEqual(stuck(Book(("a" * 8,)), counter("a", 60)), "a" * 60)
        self.assertEqual(stuck(Book(("a" * 8,)), counter("a", 59, (0, 8))), "a" * 59)
        self.assertIsNone(stuck(Book(("a" * 8,)), counter("a", 8)))
        self.assertIsNone(stuck(Book(("a",)), Machine("a", ((0,),), (True,))))
        self.assertEqual(stuck(AB, Machine("ab", ((0, 0),), (True,))), "a")
        self.assertEqual(stuck(AB, only("ab", "aaabbb")), "aaabbb")
        self.assertEqual(stuck(AB, only("ab", "bbb")), "bbb")
        self.assertEqual(stuck(AB, only("ab", "bbbaaa")), "bbbaaa")
        self.assertIsNone(stuck(AB, only("ab", "")))

    def test_right_but_not_least(self):
        self.flagged(True, is_right, BB, Machine("ab", ((2, 1), (1, 0), (0, 3), (1, 2)), (True, False, True, False)))
        self.flagged(True, is_right, Book(("a",)), Machine("a", ((0,), (1,)), (True, False)))
        sixty = Machine("a", tuple(((at + 1) % 60,) for at in range(60)), tuple(at % 3 == 0 for at in range(60)))
        self.flagged(True, is_right, Book(("aaa",)), sixty)

    def test_no_machine_is_right_for_a_book_that_is_not_enough(self):
        chance = seeded(83)
        for book in (AB, Book(("aa", "bbb")), Book(("aab", "b"))):
            for _ in range(20):
                self.flagged(False, is_right, book, random_machine(chance, "ab", chance.randint(1, 60)))

    def test_books_with_too_large_machines(self):
        chance = seeded(84)
        for _ in range(5):
            self.flagged(False, is_right, HUGE, random_machine(chance, "abc", 60))
        self.flagged(False, is_right, HUGE, Machine("abc", ((0, 0, 0),), (True,)))
        self.assertIsNone(gap(HUGE, Machine("abc", ((0, 0, 0),), (True,))))
        self.assertEqual(stuck(HUGE, Machine("abc", ((0, 0, 0),), (True,))), "b")


class TestWrong(Case):

    def test_not_own(self):
        others = [counter("a", 2), counter("abc", 61), counter("bc", 1), counter("abcdefgh", 300)]
        for thing in odd_things() + deep_things() + not_logs() + others:
            self.refused(NotOwn, gap, K, thing)
            self.refused(NotOwn, gap, AB, thing)
            self.refused(NotOwn, stuck, K, thing)
            self.refused(NotOwn, stuck, AB, thing)
            self.flagged(False, is_right, K, thing)
            self.flagged(False, is_right, AB, thing)

    def test_more_than_sixty(self):
        for book in (AB, K):
            for many in (61, 300):
                for lets in ((0,), ()):
                    self.too_many(60, stuck, book, counter("ab", many, lets))
                    self.too_many(60, is_right, book, counter("ab", many, lets))
            stuck(book, counter("ab", 60))
            self.flagged(False, is_right, book, counter("ab", 60))
        self.assertIsNone(gap(K, counter("ab", 300, range(0, 300, 2))))
        self.assertEqual(gap(K, turned(counter("ab", 300))) is None, False)
        front, number, back = gap(K, counter("ab", 300))
        self.assertEqual((len(front + back) % 300, number in (0, 1, 2)), (0, True))
