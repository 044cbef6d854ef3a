"""Point 8.1: logs with one rest, and meetings. Example e06."""

from struckpieces.books import Book, letters
from struckpieces.rests import meetings, one_rest
from struckpieces.tables import ends
from tests.cases import Case
from tests.plain import AB, ABBA, BB, K, NESTS, comes_to_all, one_struck, random_book, seeded, shortest_first, texts

FEW = {"a": 12, "ab": 8, "abc": 6, "abcd": 5, "abcdefgh": 3}
TWELVE = Book(("abcdefgh", "bcdefgha", "cdefghab", "defghabc", "efghabcd", "a", "b", "c", "d", "e", "f", "g"))


def laid(book):
    """All meetings: one piece laid at each place of another one, or beyond its end, where they have letters in common."""
    found = set()
    for number, one in enumerate(book.pieces):
        for other_number, other in enumerate(book.pieces):
            for place in range(len(one)):
                if (place, other_number) == (0, number):
                    continue
                long = max(len(one), place + len(other))
                signs = [None] * long
                fits = True
                for at, letter in list(enumerate(one)) + list(enumerate(other, place)):
                    fits = fits and signs[at] in (None, letter)
                    signs[at] = letter
                if fits:
                    found.add("".join(signs))
    return shortest_first(found)


def books():
    yield from (BB, AB, K, NESTS, ABBA, Book(("a",)), Book(("aba",)), Book(("aa", "aaa")), Book(("ab", "ba", "cab")))
    yield from (Book(("bac", "a")), Book(("abcd", "bc")), Book(("abab",)), Book(("aab", "ab", "bb", "aa")))
    chance = seeded(111)
    for _ in range(250):
        yield random_book(chance, chance.choice(["a", "ab", "ab", "abc", "abcd"]), chance.randint(1, 8), 5)


class TestExample(Case):

    def test_e06(self):
        self.assertEqual(one_rest(K), ("aab", "a", "b"))
        self.assertIsNone(one_rest(BB))


class TestMeetings(Case):

    def test_laid_by_hand(self):
        self.assertEqual(meetings(AB), [])
        self.assertEqual(meetings(Book(("a",))), [])
        self.assertEqual(meetings(BB), ["bbb"])
        self.assertEqual(meetings(K), ["aaa", "aab", "abb", "bbb"])
        self.assertEqual(meetings(Book(("aba",))), ["ababa"])
        self.assertEqual(meetings(Book(("aaa",))), ["aaaa", "aaaaa"])
        self.assertEqual(meetings(Book(("a", "bac"))), ["bac"])
        self.assertEqual(meetings(Book(("aa", "aaa"))), ["aaa", "aaaa", "aaaaa"])
        self.assertEqual(meetings(Book(("abc", "cab"))), ["cabc", "abcab"])
        self.assertEqual(meetings(Book(("ab", "abc", "bc"))), ["abc"])
        self.assertEqual(meetings(Book(("ab", "cd"))), [])
        self.assertEqual(meetings(Book(("a" * 8,))), ["a" * many for many in range(9, 16)])

    def test_against_each_place(self):
        many = 0
        for book in list(books()) + [TWELVE]:
            found = meetings(book)
            self.assertEqual(found, laid(book), book.pieces)
            self.assertIs(type(found), list)
            many += len(found)
        self.assertGreater(many, 1000)

    def test_lists_are_new(self):
        meetings(K).append("more")
        self.assertEqual(meetings(K), ["aaa", "aab", "abb", "bbb"])


class TestOneRest(Case):

    def test_against_all_logs(self):
        kinds = {None: 0, "found": 0}
        for book in books():
            own = letters(book)
            told = one_rest(book)
            first = None
            for log in texts(own, FEW[own]):
                found = ends(book, log, 500)
                if len(found) > 1:
                    first = log, found[0], found[1]
                    break
            if first is None:
                self.assertTrue(told is None or len(told[0]) > FEW[own], (book.pieces, told))
                kinds[None] += 1
            else:
                self.assertEqual(told, first, book.pieces)
                self.assertIs(type(told), tuple)
                kinds["found"] += 1
        self.assertGreater(min(kinds.values()), 30)

    def test_the_fact_of_rests(self):
        for book in books():
            told = one_rest(book)
            for log in laid(book):
                if told is not None and log == told[0]:
                    break
                self.assertEqual(len(ends(book, log, 500)), 1)
            else:
                self.assertIsNone(told)
            if told is not None:
                self.assertEqual(list(told[1:]), ends(book, told[0], 500)[:2])

    def test_the_first_two_of_many_ends(self):
        for pieces in [("aab", "aba"), ("abcabc", "cab", "bca"), ("ab", "bcd", "cda", "dab"), ("abab", "bbaba", "babb")]:
            book = Book(pieces)
            log, one, other = one_rest(book)
            found = shortest_first([text for text in comes_to_all(book, log) if not one_struck(book, text)])
            self.assertEqual(found[:2], [one, other])

    def test_more_ways_than_ends_counts(self):
        # Some of these meetings come to more than 500 texts.
        self.assertEqual(one_rest(TWELVE), ("abcdefgh", "", "h"))
        self.assertIsNone(one_rest(Book(("a", "b", "c", "d", "e", "f", "g", "h", "abcdefgh", "hgfedcba", "acegbdfh"))))
        self.assertIsNone(one_rest(Book(tuple("a" * many for many in range(1, 9)))))
        self.assertEqual(one_rest(Book(("aa", "aaa"))), ("aaa", "", "a"))

    def test_a_book_of_one_piece(self):
        for piece in ("a", "ab", "aa", "aaaaaaaa", "abcdefgh"):
            self.assertIsNone(one_rest(Book((piece,))))
        self.assertEqual(one_rest(Book(("aba",))), ("ababa", "ab", "ba"))
        self.assertEqual(one_rest(Book(("abcdefga",))), ("abcdefgabcdefga", "abcdefg", "bcdefga"))
