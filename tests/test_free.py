"""Point 3.1: free texts. Example e03."""

from struckpieces.books import Book, letters
from struckpieces.errors import NoNumber, NotEnough
from struckpieces.free import endless, free_count, free_texts, is_endless, is_enough, longest_free
from tests.cases import Case
from tests.plain import AB, ABBA, BB, K, NESTS, has_piece, random_book, seeded, texts
from tests.things import deep_things, not_logs, not_numbers, odd_things

# Two letters, each up to seven times: free texts of at most 14 letters, once b stands no more ahead of a.
STEPS = Book(("aaaaaaaa", "bbbbbbbb", "ba"))


# Only texts whose letters ascend are free.
ASCENDING = ("ba", "ca", "cb", "da", "db", "dc")


def many_free():
    """Books that are enough, with how many free texts they have."""
    yield Book(("a",)), 1
    yield Book(("a" * 8,)), 8
    yield STEPS, 64
    yield Book(ASCENDING + ("aaaaa", "bbbbb", "ccccc", "dddd")), 500
    yield Book(ASCENDING + ("aaaaa", "bbbbb", "cccccccc", "ddd")), 600


class TestFree(Case):

    def test_e03(self):
        self.assertEqual(free_texts(K), ["", "a", "b", "ba"])
        self.assertIs(is_enough(AB), False)

    def test_against_all_texts(self):
        chance = seeded(41)
        enough = 0
        for _ in range(250):
            signs = chance.choice(["a", "ab", "abc"])
            book = random_book(chance, signs, 7, 4, chance.random() < 0.6)
            most = {1: 12, 2: 8, 3: 6}[len(signs)]
            found = [text for text in texts(signs, most) if not has_piece(book, text)]
            for many in range(most + 1):
                self.assertEqual(free_count(book, many), len([text for text in found if len(text) == many]))
            if is_enough(book):
                enough += 1
                self.enough(book, found, most)
            else:
                self.not_enough(book)
        self.assertTrue(50 < enough < 200)

    def enough(self, book, found, most):
        told = free_texts(book)
        self.assertEqual([text for text in told if len(text) <= most], found)
        self.assertEqual(longest_free(book), len(told[-1]))
        self.assertIsNone(endless(book))
        self.assertEqual(free_count(book, longest_free(book) + 1), 0)
        # The fact of free texts.
        for letter in letters(book):
            self.assertTrue(any(piece == letter * len(piece) for piece in book.pieces))

    def not_enough(self, book):
        self.refused(NotEnough, free_texts, book)
        self.refused(NotEnough, longest_free, book)
        front, again = endless(book)
        self.assertIs(type(endless(book)), tuple)
        self.assertTrue(again)
        self.assertFalse(has_piece(book, front + again * 30))
        self.assertLessEqual(set(front + again), set(letters(book)))
        self.flagged(True, is_endless, book, (front, again))
        self.assertGreater(free_count(book, 1000), 0)

    def test_how_many(self):
        for book, many in many_free():
            self.assertIs(is_enough(book), True)
            found = free_texts(book)
            self.assertEqual(len(found), many)
            self.assertEqual(found, sorted(found, key=lambda text: (len(text), text)))
            self.assertFalse(any(has_piece(book, text) for text in found))
            self.assertEqual(sum(free_count(book, long) for long in range(longest_free(book) + 1)), many)

    def test_three_thousand(self):
        # 6 times 8 times 8 times 8 less 6 times 6 times 2.
        exact = Book(ASCENDING + ("a" * 6, "b" * 8, "c" * 8, "d" * 8, "bbdddddd"))
        self.assertEqual(len(free_texts(exact)), 3000)
        # 7 times 7 times 8 times 8 less 7 times 5 times 3 less 5 times 6.
        more = Book(ASCENDING + ("a" * 7, "b" * 7, "c" * 8, "d" * 8, "bbddddd", "aadd"))
        self.assertEqual(sum(free_count(more, many) for many in range(29)), 3001)
        self.too_many(3000, free_texts, more)
        self.assertEqual(longest_free(more), 6 + 6 + 7 + 7)

    def test_lists_are_new(self):
        first = free_texts(K)
        first.append("more")
        self.assertEqual(free_texts(K), ["", "a", "b", "ba"])
        self.assertEqual(endless(AB), endless(AB))

    def test_longest(self):
        self.assertEqual([longest_free(book) for book in (Book(("a",)), BB, K, STEPS)], [0, 1, 2, 14])
        self.assertEqual(longest_free(Book(("a" * 8,))), 7)

    def test_counts(self):
        self.assertEqual([free_count(AB, many) for many in range(5)], [1, 2, 3, 4, 5])
        self.assertEqual(free_count(AB, 1000), 1001)
        self.assertEqual(free_count(K, 1000), 0)
        self.assertEqual(free_count(Book(("abababab",)), 2), 4)
        # As many as there are texts of letters that are not all the same eight times over.
        self.assertEqual(free_count(Book(("aaaaaaaa", "b")), 7), 1)
        plenty = Book(("abcdefgh",))
        self.assertEqual(free_count(plenty, 7), 8 ** 7)
        self.assertEqual(free_count(plenty, 8), 8 ** 8 - 1)
        self.assertEqual(free_count(plenty, 9), 8 ** 9 - 16)
        self.assertGreater(free_count(plenty, 1000), 8 ** 999)

    def test_no_number(self):
        for many in not_numbers() + [1001, 10 ** 39]:
            self.refused(NoNumber, free_count, K, many)
            self.refused(NoNumber, free_count, AB, many)


class TestEndless(Case):

    def test_what_is_endless(self):
        for thing in [("", "a"), ("", "b"), ("b", "a"), ("bbb", "aaaa"), ("b" * 20000, "a"), ("", "b" * 20000)]:
            self.flagged(True, is_endless, AB, thing)
        for thing in [
            ("", ""), ("a", ""), ("a", "b"), ("", "ab"), ("", "ba"), ("ab", "a"), ("a", "a", "a"), ("a",), (),
            ["", "a"], ("", "h"), ("h", "a"), ("", "A"), ("b" * 19999 + "ab", "a"), ("", "b" * 9999 + "a"), "ba",
        ]:
            self.flagged(False, is_endless, AB, thing)

    def test_pieces_over_many_rounds(self):
        book = Book(("aaaaaaaa", "babababa", "bb"))
        self.flagged(False, is_endless, book, ("", "a"))
        self.flagged(False, is_endless, book, ("", "ba"))
        self.flagged(False, is_endless, book, ("aaaaaaa", "ab"))
        self.flagged(True, is_endless, book, ("aaaaaaa", "baa"))
        self.flagged(True, is_endless, book, ("bababa", "abaa"))
        self.flagged(False, is_endless, book, ("bababa", "baa"))
        self.flagged(False, is_endless, book, ("baba", "bab"))

    def test_against_many_rounds(self):
        for book in (AB, NESTS, ABBA, Book(("aba", "bb")), Book(("aaaa", "bab"))):
            for front in texts("ab", 4):
                for again in texts("ab", 4):
                    told = again != "" and not has_piece(book, front + again * 20)
                    own = set(front + again) <= set(letters(book))
                    self.flagged(told and own, is_endless, book, (front, again))

    def test_books_that_are_enough_have_none(self):
        for book in (K, BB, STEPS):
            for front in texts("ab", 3):
                for again in texts("ab", 4):
                    self.flagged(False, is_endless, book, (front, again))

    def test_odd_and_deep_things(self):
        for thing in odd_things() + deep_things() + not_logs():
            self.flagged(False, is_endless, AB, thing)
            self.flagged(False, is_endless, AB, (thing, "a"))
            self.flagged(False, is_endless, AB, ("", thing))
