"""Points 1.3, 2.1 and 2.2: what one log comes to. Example e02."""

from struckpieces.books import Book
from struckpieces.errors import NoLog, NoNumber
from struckpieces.logs import left_by
from struckpieces.tables import comes_to, ends, idle_striking, idle_stretches, is_idle, least_left, most_struck
from tests.cases import Case
from tests.plain import AB, ABBA, BB, K, NESTS, comes_to_all, idle_logs, one_struck, random_book, seeded
from tests.plain import shortest_first, texts
from tests.things import not_logs, not_numbers

BOOKS = (BB, AB, K, NESTS, ABBA, Book(("c", "ba", "abcabcab")), Book(("aaa",)), Book(("abc", "ca", "bb")))
ASKED = (idle_striking, idle_stretches, least_left, most_struck)


def some_logs():
    """Pairs of a book and a log, short enough to go through all strikes."""
    for book in BOOKS:
        for log in texts("abc", 5):
            yield book, log
    chance = seeded(21)
    for _ in range(150):
        signs = chance.choice(["ab", "abc"])
        book = random_book(chance, signs)
        for _ in range(4):
            yield book, "".join(chance.choice(signs + "h") for _ in range(chance.randint(5, 9)))


class TestExample(Case):

    def test_e02(self):
        self.assertIsNone(idle_striking(K, "baba"))
        self.assertIs(is_idle(K, "abab"), True)
        self.assertEqual(least_left(K, "aab"), "a")


class TestAgainstAllStrikes(Case):

    def test_idle(self):
        for book, log in some_logs():
            idle = "" in comes_to_all(book, log)
            self.flagged(idle, is_idle, book, log)
            striking = idle_striking(book, log)
            self.assertEqual(striking is not None, idle, (book.pieces, log))
            if idle:
                self.assertIs(type(striking), tuple)
                self.assertEqual(left_by(book, log, striking), "")

    def test_pieces_put_in(self):
        for book in BOOKS:
            idle = idle_logs(book, 7)
            for log in texts("abc", 7):
                self.flagged(log in idle, is_idle, book, log)

    def test_stretches(self):
        for book, log in some_logs():
            found = [
                (begin, end) for begin in range(len(log)) for end in range(begin + 1, len(log) + 1)
                if is_idle(book, log[begin:end])
            ]
            self.assertEqual(idle_stretches(book, log), found, (book.pieces, log))

    def test_comes_to(self):
        chance = seeded(22)
        for book, log in some_logs():
            found = comes_to_all(book, log)
            others = list(found) + ["".join(chance.choice("abc") for _ in range(chance.randint(0, 5)))]
            for other in others + [log + "a", "h", "a" * 61]:
                striking = comes_to(book, log, other)
                self.assertEqual(striking is not None, other in found, (book.pieces, log, other))
                if striking is not None:
                    self.assertEqual(left_by(book, log, striking), other)

    def test_least_left(self):
        for book, log in some_logs():
            found = shortest_first(comes_to_all(book, log))[0]
            self.assertEqual(least_left(book, log), found, (book.pieces, log))
            self.assertEqual(left_by(book, log, most_struck(book, log)), found)

    def test_ends(self):
        for book, log in some_logs():
            every = comes_to_all(book, log)
            found = shortest_first([text for text in every if not one_struck(book, text)])
            self.assertEqual(ends(book, log, 500), found, (book.pieces, log))
            self.assertEqual(ends(book, log, len(every)), found)
            if len(every) > 1:
                self.too_many(len(every) - 1, ends, book, log, len(every) - 1)


class TestEdges(Case):

    def test_the_empty_log(self):
        for book in BOOKS:
            self.flagged(True, is_idle, book, "")
            self.assertEqual(idle_striking(book, ""), ())
            self.assertEqual(idle_stretches(book, ""), [])
            self.assertEqual(comes_to(book, "", ""), ())
            self.assertIsNone(comes_to(book, "", "a"))
            self.assertEqual((least_left(book, ""), most_struck(book, "")), ("", ()))
            self.assertEqual(ends(book, "", 1), [""])

    def test_itself_by_none(self):
        for log in ("a", "h", "aab", "aabb"):
            self.assertEqual(comes_to(K, log, log), ())

    def test_foreign_letters(self):
        self.flagged(False, is_idle, AB, "ahb")
        self.assertIsNone(idle_striking(AB, "h"))
        self.assertEqual(idle_stretches(AB, "habhab"), [(1, 3), (4, 6)])
        self.assertEqual(least_left(AB, "haabbhab"), "hh")
        self.assertEqual(left_by(AB, "haabbhab", comes_to(AB, "haabbhab", "hh")), "hh")
        self.assertEqual(ends(AB, "habg", 2), ["hg"])

    def test_the_first_of_the_shortest(self):
        self.assertEqual(least_left(K, "aab"), "a")
        self.assertEqual(least_left(Book(("ab", "ba")), "aba"), "a")
        self.assertEqual(least_left(Book(("bc", "cb")), "bcb"), "b")
        self.assertEqual(least_left(Book(("abc", "cab")), "cabc"), "c")
        self.assertEqual(least_left(Book(("ab", "bb")), "abb"), "a")

    def test_sixty_letters(self):
        log = "a" * 30 + "b" * 30
        self.flagged(True, is_idle, AB, log)
        self.assertEqual(left_by(AB, log, idle_striking(AB, log)), "")
        self.assertEqual(len(idle_stretches(AB, log)), 30)
        self.assertEqual(left_by(AB, log, comes_to(AB, log, "a" * 7 + "b" * 7)), "a" * 7 + "b" * 7)
        self.assertEqual(least_left(AB, "b" + "ab" * 29 + "a"), "ba")
        self.assertEqual(left_by(AB, log, most_struck(AB, log)), "")
        self.assertEqual(ends(AB, log, 31), [""])
        powers = Book(tuple("a" * many for many in range(1, 9)))
        self.assertEqual(left_by(powers, "a" * 60, idle_striking(powers, "a" * 60)), "")
        self.assertEqual(len(idle_stretches(powers, "a" * 60)), 60 * 61 // 2)
        self.assertEqual(ends(powers, "a" * 60, 61), [""])
        self.too_many(60, ends, powers, "a" * 60, 60)

    def test_more_than_sixty(self):
        for log in ("ab" * 30 + "a", "ab" * 31, "h" * 61, "a" * 20000):
            self.flagged(False, is_idle, AB, log)
            for call in ASKED:
                self.too_many(60, call, AB, log)
            self.too_many(60, comes_to, AB, log, "")
            self.too_many(60, comes_to, AB, log, log)
            self.too_many(60, ends, AB, log, 500)
        self.assertIsNone(comes_to(AB, "ab", "ab" * 10000))

    def test_most_one_and_fivehundred(self):
        self.assertEqual(ends(AB, "ba", 1), ["ba"])
        self.assertEqual(ends(AB, "ba", 500), ["ba"])
        self.too_many(1, ends, AB, "ab", 1)
        self.assertEqual(ends(AB, "ab", 2), [""])
        # 22 times 22 and 25 times 20 texts.
        deep = Book(("ab", "cd"))
        self.assertEqual(ends(deep, "a" * 21 + "b" * 21 + "c" * 9 + "d" * 9, 500), [""])
        self.assertEqual(ends(deep, "a" * 19 + "b" * 19 + "h" + "c" * 10 + "d" * 10, 220), ["h"])
        self.assertEqual(ends(Book(("a", "b")), "a" * 24 + "h" + "b" * 19, 500), ["h"])
        self.too_many(500, ends, Book(("a", "b")), "a" * 24 + "h" + "b" * 20, 500)

    def test_lists_are_new(self):
        for call in (lambda: idle_stretches(K, "aab"), lambda: ends(K, "aab", 9)):
            first = call()
            again = list(first)
            first.append("more")
            self.assertEqual(call(), again)


class TestWrong(Case):

    def test_no_log(self):
        for thing in not_logs():
            self.flagged(False, is_idle, K, thing)
            for call in ASKED:
                self.refused(NoLog, call, K, thing)
            self.refused(NoLog, comes_to, K, thing, "")
            self.refused(NoLog, comes_to, K, "aab", thing)
            self.refused(NoLog, comes_to, K, "a" * 61, thing)
            self.refused(NoLog, comes_to, K, thing, thing)
            self.refused(NoLog, ends, K, thing, 0)

    def test_no_number(self):
        for most in not_numbers() + [0, 501, 10 ** 39]:
            self.refused(NoNumber, ends, K, "aab", most)
            self.refused(NoNumber, ends, K, "a" * 61, most)
