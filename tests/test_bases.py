"""Point 10.1: books with the same idle logs. Example e08."""

from struckpieces.bases import base, is_held, needless, parting
from struckpieces.books import Book, letters
from struckpieces.tables import is_idle
from tests.cases import Case
from tests.plain import AB, ABBA, BB, K, NESTS, idle_logs, random_book, seeded, shortest_first, texts
from tests.things import deep_things, not_logs, odd_things

FEW = {"a": 16, "ab": 9, "abc": 7, "abcd": 6}
TWELVE = Book(("a", "bb", "ab", "abb", "bbbb", "aabb", "bab", "baab", "c", "abc", "cc", "bcbb"))


def books():
    yield from (BB, AB, K, NESTS, ABBA, Book(("a",)), Book(("aa", "aaa", "aaaaa")), Book(("ab", "aabb", "abab", "ba")))
    chance = seeded(131)
    for _ in range(200):
        yield random_book(chance, chance.choice(["a", "ab", "ab", "abc", "abcd"]), 9, chance.randint(2, 6))


def pairs():
    """Pairs of books: any two, and such with nearly the same idle logs."""
    chance = seeded(132)
    found = list(books())
    for book in found:
        yield book, chance.choice(found)
        pieces = list(book.pieces)
        log = chance.choice(sorted(idle_logs(book, 6) - {""}) or ["a"])
        if log not in pieces and len(log) <= 8 and len(pieces) < 12:
            yield book, Book(tuple(pieces + [log]))
            yield Book((log,) + tuple(pieces)), book
        chance.shuffle(pieces)
        yield book, Book(tuple(pieces))
        yield book, Book(tuple(pieces[:-1] or pieces))


class TestExample(Case):

    def test_e08(self):
        self.assertEqual(needless(Book(("a", "bb", "bab"))), (2,))
        self.assertEqual(parting(BB, K), "a")


class TestBase(Case):

    def test_by_hand(self):
        for pieces, found in [
            (("a",), ()), (("ab",), ()), (("a", "aa"), (1,)), (("aa", "a"), (0,)), (("aa", "aaa"), ()),
            (("aa", "aaa", "aaaaa"), (2,)), (("aabb", "ab", "abab"), (0, 2)), (("aa", "bb", "ab"), ()),
            (("abcdefgh",), ()), (("abcdefgh", "h", "abc", "defg"), (0,)), (tuple("abcdefgh"), ()),
            (tuple("a" * many for many in range(8, 0, -1)), tuple(range(7))),
        ]:
            self.assertEqual(needless(Book(pieces)), found)
        self.assertEqual(needless(TWELVE), (3, 4, 5, 6, 7, 9, 10))
        self.assertEqual(base(TWELVE), Book(("a", "bb", "ab", "c", "bcbb")))

    def test_against_pieces_put_in(self):
        many = 0
        for book in books():
            found = []
            for number, piece in enumerate(book.pieces):
                others = book.pieces[:number] + book.pieces[number + 1:]
                if others and piece in idle_logs(Book(others), len(piece)):
                    found.append(number)
            self.assertEqual(needless(book), tuple(found), book.pieces)
            rest = tuple(piece for number, piece in enumerate(book.pieces) if number not in found)
            self.assertEqual(base(book), Book(rest))
            self.assertIs(type(base(book)), Book)
            many += len(found)
        self.assertGreater(many, 100)

    def test_the_fact_of_bases(self):
        for book in list(books()) + [TWELVE]:
            least = base(book)
            own = letters(book)
            self.assertEqual(idle_logs(book, FEW[own]), idle_logs(least, FEW[own]))
            self.assertEqual(needless(least), ())
            self.assertEqual(base(least), least)
            for number in needless(book):
                piece = book.pieces[number]
                shorter = tuple(other for other in book.pieces if len(other) < len(piece))
                self.flagged(True, is_idle, Book(shorter), piece)
            # A piece of the base is made of nothing else that is idle.
            for piece in least.pieces:
                others = tuple(sorted(log for log in idle_logs(least, len(piece)) if log not in ("", piece)))[:12]
                self.assertFalse(others and is_idle(Book(others), piece))


class TestTwoBooks(Case):

    def test_parting_against_pieces_put_in(self):
        kinds = {None: 0, "found": 0}
        for book, other in pairs():
            most = min(FEW.get(letters(book), 5), FEW.get(letters(other), 5), 9)
            here = idle_logs(book, most)
            there = idle_logs(other, most)
            first = shortest_first(here ^ there)[:1]
            told = parting(book, other)
            if told is None:
                self.assertEqual(first, [])
                self.assertEqual(sorted(base(book).pieces), sorted(base(other).pieces))
                kinds[None] += 1
                continue
            kinds["found"] += 1
            self.assertNotEqual(sorted(base(book).pieces), sorted(base(other).pieces))
            self.assertIn(told, book.pieces + other.pieces)
            self.assertNotEqual(is_idle(book, told), is_idle(other, told))
            if first or len(told) <= most:
                self.assertEqual(told, first[0], (book.pieces, other.pieces))
            self.assertEqual(parting(other, book), told)
        self.assertGreater(min(kinds.values()), 100)

    def test_parting_by_hand(self):
        for pieces, others, told in [
            (("a",), ("b",), "a"), (("b",), ("a",), "a"), (("aa",), ("aaa",), "aa"), (("a", "b"), ("b", "a"), None),
            (("ab", "b"), ("b", "ab", "abb"), None), (("ab", "cd"), ("cd", "ba"), "ab"), (("h",), ("h", "hh"), None),
            (("aa", "aaaa"), ("aa", "aaaaa"), "aaaaa"), (("abcdefgh",), ("abcdefg",), "abcdefg"),
            (("ab", "aabb"), ("ab", "abb"), "abb"), (("b", "ab"), ("b", "a"), "a"), (("b", "ab"), ("b", "ac"), "ab"),
        ]:
            self.assertEqual(parting(Book(pieces), Book(others)), told)

    def test_is_held(self):
        kinds = {True: 0, False: 0}
        for book, other in pairs():
            most = min(FEW.get(letters(book), 5), 8)
            within = idle_logs(book, most) <= idle_logs(other, most)
            told = is_held(book, other)
            self.assertIs(type(told), bool)
            kinds[told] += 1
            if max(len(piece) for piece in book.pieces) <= most:
                self.assertIs(told, within, (book.pieces, other.pieces))
            self.assertEqual(parting(book, other) is None, told and is_held(other, book))
        self.assertGreater(min(kinds.values()), 50)

    def test_held_by_one_side_alone(self):
        self.flagged(True, is_held, AB, Book(("a", "b")))
        self.flagged(False, is_held, Book(("a", "b")), AB)
        self.flagged(True, is_held, Book(("aaaa",)), Book(("aa",)))
        self.flagged(False, is_held, Book(("aa",)), Book(("aaaa",)))
        self.flagged(True, is_held, AB, AB)

    def test_what_is_no_book_holds_none(self):
        for thing in not_logs() + odd_things() + deep_things() + [("ab",), ["ab"], "ab", {"pieces": ("ab",)}]:
            self.flagged(False, is_held, AB, thing)
            self.flagged(False, is_held, TWELVE, thing)

    def test_all_texts_to_some_length(self):
        for book, other in [(BB, K), (K, BB), (AB, K), (ABBA, K), (K, ABBA), (Book(("aab", "ab")), Book(("ab", "aab")))]:
            logs = list(texts("ab", 9))
            parted = [log for log in logs if is_idle(book, log) != is_idle(other, log)]
            self.assertEqual(parting(book, other), parted[0] if parted else None)
            self.assertIs(is_held(book, other), all(is_idle(other, log) for log in logs if is_idle(book, log)))
