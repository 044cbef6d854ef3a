"""Point 1.2: strikes, strikings, pieces put in. Example e01."""

import unittest

from struckpieces.books import Book, letters
from struckpieces.errors import NoLog, NoPiece, NoPlace, NoStrike, NoStriking
from struckpieces.logs import is_striking, left_by, put_in, strikes, struck
from tests.cases import Case
from tests.plain import AB, BB, K, NESTS, strikes_in, texts
from tests.things import deep_things, huge_integers, not_logs, not_numbers, not_tuples, odd_things

BOOKS = (BB, AB, K, NESTS, Book(("c", "ba", "abcabcab")))


class TestExample(unittest.TestCase):

    def test_e01(self):
        self.assertEqual(strikes(K, "aab"), [(0, 0), (1, 2)])
        self.assertEqual(struck(K, "aab", (1, 2)), "a")
        self.assertEqual(letters(K), "ab")


class TestStrikes(Case):

    def test_all_of_short_logs(self):
        for book in BOOKS:
            for log in texts("abc", 6):
                self.assertEqual(strikes(book, log), strikes_in(book, log), (book.pieces, log))

    def test_edges(self):
        self.assertEqual(strikes(K, ""), [])
        self.assertEqual(strikes(AB, "ba"), [])
        self.assertEqual(strikes(AB, "hab"), [(1, 0)])
        self.assertEqual(strikes(AB, "abhab"), [(0, 0), (3, 0)])
        self.assertEqual(strikes(K, "aaa"), [(0, 0), (1, 0)])
        self.assertEqual(strikes(Book(("aa", "a")), "aa"), [(0, 0), (0, 1), (1, 1)])
        self.assertEqual(strikes(Book(("abcdefgh",)), "abcdefgh"), [(0, 0)])
        self.assertEqual(strikes(Book(("abcdefgh",)), "abcdefg"), [])

    def test_long_log(self):
        # assertEqual would take hours to print how such lists differ.
        self.assertTrue(strikes(Book(("b", "a")), "a" * 20000) == [(place, 1) for place in range(20000)])

    def test_a_new_list_each_time(self):
        first = strikes(K, "aab")
        first.append("more")
        self.assertEqual(strikes(K, "aab"), [(0, 0), (1, 2)])

    def test_kinds(self):
        for strike in strikes(K, "aabb"):
            self.assertEqual([type(strike), type(strike[0]), type(strike[1])], [tuple, int, int])

    def test_no_log(self):
        for thing in not_logs():
            self.refused(NoLog, strikes, K, thing)


class TestStruck(Case):

    def test_all_of_short_logs(self):
        for book in BOOKS:
            for log in texts("abc", 5):
                for place, number in strikes_in(book, log):
                    left = struck(book, log, (place, number))
                    self.assertEqual(left, log[:place] + log[place + len(book.pieces[number]):])

    def test_edges(self):
        self.assertEqual(struck(AB, "ab", (0, 0)), "")
        self.assertEqual(struck(AB, "abcd", (0, 0)), "cd")
        self.assertEqual(struck(AB, "cdab", (2, 0)), "cd")
        self.assertEqual(struck(AB, "hhabhh", (2, 0)), "hhhh")
        self.assertEqual(struck(Book(("a", "aa")), "aaa", (2, 0)), "aa")
        self.assertEqual(struck(Book(("a", "aa")), "aaa", (1, 1)), "a")

    def test_no_strike(self):
        for strike in [
            (0, 1), (1, 0), (2, 1), (1, 1), (3, 0), (0, 3), (0, -1), (-1, 0), (-3, 0), (-1, -1), (0, -3),
            (), (0,), (0, 0, 0), ((0, 0),), ((0, 0), (1, 2)), ("0", "0"), (0, "aa"), ("aa", 0), (None, None),
            [0, 0], (False, 0), (0, False), (False, False), (True, 2), (1, True),
            (b"\0", 0), ([0], 0), (0, [0]), (0, 10 ** 40 - 1), (10 ** 40 - 1, 0), (1 - 10 ** 40, 0),
            (0,) * 20000,
        ]:
            self.refused(NoStrike, struck, K, "aab", strike)
        self.refused(NoStrike, struck, K, "", (0, 0))
        self.refused(NoStrike, struck, AB, "a", (0, 0))
        self.refused(NoStrike, struck, AB, "hab", (0, 0))

    def test_flags_are_no_numbers(self):
        self.assertEqual(struck(K, "bbaab", (0, 1)), "aab")
        self.refused(NoStrike, struck, K, "bbaab", (0, True))
        self.refused(NoStrike, struck, K, "bbaab", (False, 1))

    def test_odd_and_deep_strikes(self):
        for thing in odd_things() + deep_things() + huge_integers() + ["", "a", "ab", -1]:
            self.refused(NoStrike, struck, K, "aab", thing)
            self.refused(NoStrike, struck, K, "aab", (thing, 0))
            self.refused(NoStrike, struck, K, "aab", (1, thing))

    def test_no_log_comes_first(self):
        for thing in not_logs():
            self.refused(NoLog, struck, K, thing, (0, 0))
            self.refused(NoLog, struck, K, thing, None)


class TestStrikings(Case):

    def test_the_empty_one(self):
        for log in ("", "a", "aab", "hhh"):
            self.assertEqual(left_by(K, log, ()), log)
            self.assertIs(is_striking(K, log, ()), True)

    def test_each_is_one_of_what_those_ahead_leave(self):
        self.assertEqual(left_by(K, "aabb", ((1, 2), (0, 2))), "")
        self.assertEqual(left_by(K, "aabb", ((2, 1), (0, 0))), "")
        self.assertEqual(left_by(K, "aabb", ((0, 0), (0, 1))), "")
        self.assertEqual(left_by(AB, "haabbh", ((2, 0),)), "habh")
        self.assertEqual(left_by(AB, "haabbh", ((2, 0), (1, 0))), "hh")
        self.assertEqual(self.refused(NoStriking, left_by, K, "aabb", ((0, 0), (2, 1))).at, 1)

    def test_all_of_short_logs(self):
        for log in texts("abh", 4):
            self.walk(NESTS, log, log, ())

    def walk(self, book, log, left, striking):
        self.assertEqual(left_by(book, log, striking), left)
        self.assertIs(is_striking(book, log, striking), True)
        for place in range(len(left) + 1):
            for number in range(len(book.pieces) + 1):
                longer = striking + ((place, number),)
                if (place, number) in strikes_in(book, left):
                    self.walk(book, log, left[:place] + left[place + len(book.pieces[number]):], longer)
                else:
                    self.assertEqual(self.refused(NoStriking, left_by, book, log, longer).at, len(striking))
                    self.assertIs(is_striking(book, log, longer), False)

    def wrong(self, log, thing, at):
        error = self.refused(NoStriking, left_by, K, log, thing)
        self.assertEqual(error.at, at)
        self.assertIs(type(error.at), int)
        self.assertIs(is_striking(K, log, thing), False)

    def test_the_first_that_is_none(self):
        self.wrong("aab", ((0, 2),), 0)
        self.wrong("aab", ((1, 2), (0, 0)), 1)
        self.wrong("aab", ((1, 2), None, (5, 5)), 1)
        self.wrong("aabb", ((1, 2), (0, 2), (0, 0)), 2)
        self.wrong("aabb", ([1, 2], (0, 2)), 0)
        self.wrong("aabb", ((1, 2), (False, 2)), 1)
        self.wrong("bbaa", ((0, True),), 0)
        self.wrong("", ((0, 0),), 0)
        self.wrong("aab", (1, 2), 0)
        self.wrong("aab", ((-2, 2),), 0)
        self.wrong("aab", ((1, -1),), 0)

    def test_no_tuple(self):
        for thing in not_tuples() + [[(1, 2)], [], {(1, 2): 0}, iter(((1, 2),))]:
            self.wrong("aab", thing, -1)

    def test_odd_and_deep_strikes(self):
        for thing in odd_things() + deep_things() + huge_integers() + ["", "ab", 0, (), (1,)]:
            self.wrong("aab", (thing,), 0)
            self.wrong("aab", ((1, 2), thing), 1)
            self.wrong("aab", ((1, 2), (thing, 0)), 1)
            self.wrong("aab", ((1, thing),), 0)
        for thing in deep_things():
            self.assertIn(self.refused(NoStriking, left_by, K, "aab", thing).at, (-1, 0))
            self.assertIs(is_striking(K, "aab", thing), False)

    def test_long_log(self):
        book = Book(("a",))
        whole = ((0, 0),) * 20000
        self.assertEqual(left_by(book, "a" * 20000, whole), "")
        self.assertIs(is_striking(book, "a" * 20000, whole), True)
        self.assertIs(is_striking(book, "a" * 19999, whole), False)

    def test_no_log_comes_first(self):
        for thing in not_logs():
            self.refused(NoLog, left_by, K, thing, ())
            self.refused(NoLog, left_by, K, thing, None)
            self.refused(NoLog, is_striking, K, thing, ())
            self.refused(NoLog, is_striking, K, thing, None)


class TestPutIn(Case):

    def test_at_each_place(self):
        self.assertEqual([put_in(AB, "cde", place, 0) for place in range(4)], ["abcde", "cabde", "cdabe", "cdeab"])
        self.assertEqual(put_in(AB, "", 0, 0), "ab")
        self.assertEqual([put_in(K, "h", 1, number) for number in range(3)], ["haa", "hbb", "hab"])

    def test_striking_undoes_it(self):
        for book in BOOKS:
            for log in texts("abh", 4):
                for place in range(len(log) + 1):
                    for number in range(len(book.pieces)):
                        longer = put_in(book, log, place, number)
                        self.assertEqual(longer[place:place + len(book.pieces[number])], book.pieces[number])
                        self.assertEqual(struck(book, longer, (place, number)), log)

    def test_no_place(self):
        for log in ("", "a", "cde"):
            for place in [len(log) + 1, len(log) + 2] + huge_integers() + not_numbers():
                self.refused(NoPlace, put_in, AB, log, place, 0)

    def test_no_piece(self):
        for number in [3, 4] + huge_integers() + not_numbers():
            self.refused(NoPiece, put_in, K, "cde", 3, number)
        self.refused(NoPiece, put_in, AB, "cde", 0, 1)
        self.refused(NoPiece, put_in, AB, "cde", 0, "ab")

    def test_flags_are_no_numbers(self):
        for flag in (True, False):
            self.refused(NoPlace, put_in, K, "cde", flag, 0)
            self.refused(NoPiece, put_in, K, "cde", 0, flag)

    def test_the_order(self):
        for thing in not_logs():
            self.refused(NoLog, put_in, K, thing, 0, 0)
            self.refused(NoLog, put_in, K, thing, -1, -1)
        for place in [4] + not_numbers():
            self.refused(NoPlace, put_in, K, "cde", place, 3)
            self.refused(NoPlace, put_in, K, "cde", place, None)


class TestArguments(unittest.TestCase):

    def test_nothing_is_changed(self):
        inner = [1, 2]
        striking = [(1, 2), inner]
        for thing in (striking, tuple(striking), inner):
            self.assertIs(is_striking(K, "aab", thing), False)
            self.assertRaises(NoStriking, left_by, K, "aab", thing)
            self.assertRaises(NoStrike, struck, K, "aab", thing)
        self.assertEqual((striking, inner), ([(1, 2), [1, 2]], [1, 2]))
        self.assertEqual(K.pieces, ("aa", "bb", "ab"))

    def test_equal_calls_give_equal_answers(self):
        for _ in range(2):
            self.assertEqual(strikes(K, "aabb"), [(0, 0), (1, 2), (2, 1)])
            self.assertEqual(left_by(K, "aabb", ((1, 2), (0, 2))), "")
            self.assertEqual(put_in(K, "h", 0, 1), "bbh")
