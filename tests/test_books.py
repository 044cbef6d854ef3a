"""Point 1.1: books and their letters."""

import unittest

from struckpieces.books import Book, letters
from struckpieces.errors import BadBook, LogError
from tests.things import deep_things, huge_integers, not_logs, not_tuples, odd_things

TWELVE = ("a", "b", "c", "d", "e", "f", "g", "h", "aa", "ab", "ba", "bb")


class TestBooks(unittest.TestCase):

    def refused(self, pieces, part):
        with self.assertRaises(LogError) as found:
            Book(pieces)
        self.assertIs(type(found.exception), BadBook)
        self.assertEqual(found.exception.part, part)
        self.assertIs(type(found.exception.part), type(part))

    def test_pieces_are_kept(self):
        for pieces in [("a",), ("a", "bb"), ("ab",), ("aa", "bb", "ab"), ("abcdefgh", "h"), ("b", "a")]:
            self.assertEqual(Book(pieces).pieces, pieces)
            self.assertIs(type(Book(pieces).pieces), tuple)

    def test_one_to_twelve_pieces(self):
        for many in range(1, 13):
            self.assertEqual(Book(TWELVE[:many]).pieces, TWELVE[:many])
        self.refused((), "pieces")
        self.refused(TWELVE + ("cc",), "pieces")
        self.refused(("a",) * 13, "pieces")
        self.refused((None,) * 13, "pieces")
        self.refused(("a",) * 20000, "pieces")

    def test_no_tuple(self):
        for thing in not_tuples():
            self.refused(thing, "pieces")
        self.refused(["a", "bb"], "pieces")
        self.refused("ab", "pieces")
        self.refused({"a": 1, "bb": 2}, "pieces")

    def test_one_to_eight_letters(self):
        for long in range(1, 9):
            self.assertEqual(Book(("a" * long,)).pieces, ("a" * long,))
        self.refused(("",), 0)
        self.refused(("a" * 9,), 0)
        self.refused(("a", ""), 1)
        self.refused(("a", "abcdefgha"), 1)
        self.refused(("a", "b" * 20000), 1)

    def test_what_is_no_piece(self):
        for thing in not_logs() + huge_integers():
            self.refused((thing,), 0)
            self.refused(("a", "bb", thing), 2)
            self.refused(("a", thing, "bb"), 1)

    def test_foreign_signs(self):
        for sign in [chr(code) for code in range(32, 127)] + ["\n"]:
            if sign in "abcdefgh":
                self.assertEqual(Book((sign,)).pieces, (sign,))
                continue
            for piece in (sign, "a" + sign, sign + "a", "ab" + sign + "ab"):
                self.refused(("b", piece), 1)

    def test_equal_pieces(self):
        self.refused(("a", "a"), 1)
        self.refused(("a", "bb", "a"), 2)
        self.refused(("a", "bb", "ab", "bb", "a"), 3)
        self.refused(TWELVE[:11] + ("a",), 11)

    def test_the_first_that_is_wrong(self):
        self.refused(("a", "", "a"), 1)
        self.refused(("a", "a", ""), 1)
        self.refused((0, "", "i"), 0)
        self.refused(("a", "b", "b", None), 2)
        self.refused(("a", "ba", None, "b", "b"), 2)
        self.refused((None, None), 0)

    def test_deep_and_odd_pieces(self):
        for thing in deep_things():
            self.refused((thing, thing), 0)
            self.refused(("a", thing), 1)
        for thing in odd_things():
            self.refused((thing, "a", "a"), 0)

    def test_equality(self):
        self.assertTrue(Book(("a", "bb")) == Book(("a", "bb")))
        self.assertFalse(Book(("a", "bb")) != Book(("a", "bb")))
        for pieces in [("bb", "a"), ("a",), ("a", "bb", "b"), ("a", "b")]:
            self.assertTrue(Book(("a", "bb")) != Book(pieces))
            self.assertFalse(Book(("a", "bb")) == Book(pieces))

    def test_equal_to_nothing_of_another_kind(self):
        class Alike:
            pieces = ("a",)

            def __eq__(self, other):
                return True

        book = Book(("a",))
        others = [thing for thing in odd_things() if not isinstance(thing, Book)]
        for other in others + deep_things() + [("a",), "a", 0, Alike()]:
            self.assertFalse(book == other)
            self.assertTrue(book != other)

    def test_letters(self):
        self.assertEqual(letters(Book(("aa", "bb", "ab"))), "ab")
        self.assertEqual(letters(Book(("h",))), "h")
        self.assertEqual(letters(Book(("hgfe", "dcba"))), "abcdefgh")
        self.assertEqual(letters(Book(("gc", "cce", "aaaa"))), "aceg")
        self.assertEqual(letters(Book(("hhhhhhhh", "b"))), "bh")
        self.assertEqual(letters(Book(TWELVE)), "abcdefgh")
