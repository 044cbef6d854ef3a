"""Points 4.1 to 4.3: weights, shares and bounds. Example e04."""

from fractions import Fraction

from struckpieces.books import Book, letters
from struckpieces.errors import NoFraction, NoLetter, NoLog, NoWeights
from struckpieces.tables import is_idle
from struckpieces.weights import bound, barring, is_bound, is_fitting, is_shares, least_weight, shares, weight
from tests.cases import Case
from tests.plain import AB, BB, K, NESTS, random_book, seeded, texts
from tests.things import deep_things, not_fractions, not_logs, odd_things

TWELVE = Book(("abcdefgh", "ab", "bc", "cd", "de", "ef", "fg", "gh", "ha", "aab", "bbc", "ccd"))
ONE = (1, 1)
NONE = (0, 1)


def sum_of(book, weights, text):
    return sum((Fraction(*weights[letter]) for letter in text), Fraction(0))


def books():
    yield from (AB, BB, K, NESTS, TWELVE, Book(("h",)), Book(("a" * 8,)), Book(("abcabcaa", "bbbc")))
    chance = seeded(51)
    for _ in range(80):
        yield random_book(chance, chance.choice(["a", "ab", "abc", "abcd"]), 8, 5)


def logs_of(book):
    chance = seeded(52)
    own = letters(book)
    yield from ("", own, own * 3)
    for _ in range(8):
        yield "".join(chance.choice(own) for _ in range(chance.randint(1, 14)))


class WeightCase(Case):

    def is_fraction(self, thing):
        self.assertEqual((type(thing), len(thing)), (tuple, 2))
        self.assertEqual([type(thing[0]), type(thing[1])], [int, int])
        self.assertGreaterEqual(thing[1], 1)
        self.assertEqual((Fraction(*thing).numerator, Fraction(*thing).denominator), thing)

    def fits(self, book, weights):
        self.assertIs(type(weights), dict)
        self.assertEqual("".join(sorted(weights)), letters(book))
        for thing in weights.values():
            self.is_fraction(thing)
        for piece in book.pieces:
            self.assertGreaterEqual(sum_of(book, weights, piece), 0)
        self.flagged(True, is_fitting, book, weights)

    def times(self, book, thing):
        self.assertEqual((type(thing), len(thing)), (tuple, len(book.pieces)))
        for times in thing:
            self.is_fraction(times)
            self.assertGreaterEqual(times[0], 0)

    def letter_sum(self, book, thing, letter):
        return sum(Fraction(*times) * piece.count(letter) for piece, times in zip(book.pieces, thing))


class TestExample(Case):

    def test_e04(self):
        self.assertEqual(least_weight(AB, "b")[0], (-1, 1))
        self.assertEqual(shares(AB, "ba"), ((1, 1),))
        self.assertIsNone(barring(AB, "ba"))


class TestWeights(WeightCase):

    def test_weight(self):
        chance = seeded(53)
        for book in books():
            for log in logs_of(book):
                weights = {}
                for letter in letters(book):
                    told = Fraction(chance.randint(-9, 9), chance.randint(1, 9))
                    weights[letter] = (told.numerator, told.denominator)
                found = weight(book, weights, log)
                self.is_fraction(found)
                self.assertEqual(Fraction(*found), sum_of(book, weights, log))
                fits = all(sum_of(book, weights, piece) >= 0 for piece in book.pieces)
                self.flagged(fits, is_fitting, book, weights)

    def test_edges(self):
        self.assertEqual(weight(AB, {"b": (1, 3), "a": (-1, 2)}, ""), NONE)
        self.assertEqual(weight(AB, {"b": (1, 3), "a": (-1, 2)}, "aab"), (-2, 3))
        self.assertEqual(weight(AB, {"b": (1, 2), "a": (-1, 2)}, "ab" * 10000), NONE)
        big = 10 ** 40 - 1
        self.assertEqual(weight(AB, {"a": (big, big - 1), "b": (-big, big - 1)}, "aab"), (big, big - 1))
        self.assertEqual(weight(AB, {"a": (1, big), "b": (1, big - 1)}, "ab"), (2 * big - 1, big * (big - 1)))
        self.flagged(True, is_fitting, AB, {"a": (1, big - 1), "b": (-1, big)})
        self.flagged(False, is_fitting, AB, {"a": (-1, big - 1), "b": (1, big)})
        self.flagged(True, is_fitting, AB, {"a": (-1, 1), "b": (1, 1)})

    def wrong_weights(self):
        yield from odd_things() + deep_things() + [0, "ab", (), (ONE, ONE), [ONE, ONE]]
        yield from ({}, {"a": ONE}, {"a": ONE, "b": ONE, "c": ONE}, {"a": ONE, "c": ONE}, {"a": ONE, 1: ONE})
        yield from ({"a": ONE, "": ONE}, {"a": ONE, "B": ONE}, {"a": ONE, None: ONE}, {"a": ONE, (("b",),): ONE})
        yield {"ab": ONE, "b": ONE}
        deep = ()
        for _ in range(38):
            deep = (deep,)
        yield {"a": ONE, deep: ONE}
        for thing in not_fractions():
            yield {"a": thing, "b": ONE}
            yield {"b": thing, "a": ONE}

    def test_no_weights(self):
        for thing in self.wrong_weights():
            self.flagged(False, is_fitting, AB, thing)
            self.refused(NoWeights, weight, AB, thing, "ab")
            self.refused(NoWeights, weight, AB, thing, None)
            self.refused(NoWeights, weight, AB, thing, "h")

    def test_no_log(self):
        for thing in not_logs() + ["c", "abc", "h"]:
            self.refused(NoLog, weight, AB, {"a": ONE, "b": (-5, 1)}, thing)
            self.refused(NoLog, barring, AB, thing)
            self.refused(NoLog, shares, AB, thing)
            self.refused(NoLog, is_shares, AB, thing, (ONE,))
            self.refused(NoLog, is_shares, AB, thing, None)


class TestShares(WeightCase):

    def test_just_one_of_both(self):
        barred = 0
        for book in books():
            for log in logs_of(book):
                weights = barring(book, log)
                found = shares(book, log)
                self.assertEqual(weights is None, found is not None, (book.pieces, log))
                if found is None:
                    barred += 1
                    self.fits(book, weights)
                    self.assertLess(sum_of(book, weights, log), 0)
                    self.flagged(False, is_idle, book, log)
                else:
                    self.times(book, found)
                    for letter in letters(book):
                        self.assertEqual(self.letter_sum(book, found, letter), log.count(letter))
                    self.flagged(True, is_shares, book, log, found)
        self.assertGreater(barred, 100)

    def test_idle_logs_have_shares(self):
        for book in (AB, BB, K, Book(("abc", "ca", "bb"))):
            for log in texts(letters(book), 6):
                if is_idle(book, log):
                    self.assertIsNotNone(shares(book, log))

    def test_edges(self):
        self.assertEqual(shares(AB, ""), (NONE,))
        self.assertEqual(shares(Book(("aab",)), "a" * 13334 + "b" * 6666), None)
        self.assertEqual(shares(Book(("aab",)), "a" * 13332 + "b" * 6666), ((6666, 1),))
        self.assertEqual(shares(Book(("aaa",)), "a"), ((1, 3),))
        self.assertEqual(shares(Book(("aab", "abb")), "ab"), ((1, 3), (1, 3)))
        self.assertEqual(shares(Book(("ab", "bc", "ca")), "abc"), ((1, 2),) * 3)
        self.assertIsNotNone(shares(TWELVE, "abcdefgh" * 2500))
        self.assertIsNotNone(barring(TWELVE, "h" * 20000))

    def test_what_are_shares(self):
        book = Book(("a", "aa", "ab"))
        for thing in [((1, 1), (1, 1), (1, 1)), ((3, 1), (0, 1), (1, 1)), ((0, 1), (3, 2), (1, 1)), ((1, 3), (4, 3), ONE)]:
            self.flagged(True, is_shares, book, "aaaab", thing)
        wrong = [((1, 1), (1, 1), (0, 1)), ((5, 1), (-1, 1), ONE), ((2, 2), ONE, ONE), (ONE, ONE), (ONE, ONE, ONE, NONE)]
        wrong += [[ONE, ONE, ONE], {0: ONE}, ((3, 1), (0, 2), ONE), ((2, 1), ONE, ONE), "abc", 0]
        wrong += [(thing, ONE, ONE) for thing in not_fractions()] + [(ONE, ONE, thing) for thing in not_fractions()]
        for thing in wrong + odd_things() + deep_things():
            self.flagged(False, is_shares, book, "aaaab", thing)
        self.flagged(True, is_shares, book, "", (NONE,) * 3)


class TestBounds(WeightCase):

    def test_least_weight(self):
        for book in books():
            for letter in letters(book):
                number, weights = least_weight(book, letter)
                self.assertIs(type(least_weight(book, letter)), tuple)
                self.is_fraction(number)
                self.fits(book, weights)
                self.assertEqual(weights[letter], number)
                self.assertLessEqual(max(Fraction(*other) for other in weights.values()), 1)
                self.bound_shows(book, letter, number)
                # The fact of weights.
                power = any(piece == letter * len(piece) for piece in book.pieces)
                self.assertEqual(number == NONE, power)

    def bound_shows(self, book, letter, number):
        found = bound(book, letter)
        self.times(book, found)
        self.flagged(True, is_bound, book, letter, number, found)
        self.assertGreaterEqual(self.letter_sum(book, found, letter), 1)
        whole = sum(self.letter_sum(book, found, other) for other in letters(book))
        self.assertEqual(whole, 1 - Fraction(*number))
        self.flagged(False, is_bound, book, letter, (number[0] + number[1], number[1]), found)
        self.flagged(False, is_bound, book, letter, (number[0] - number[1], number[1]), found)

    def test_numbers(self):
        self.assertEqual([least_weight(AB, letter)[0] for letter in "ab"], [(-1, 1), (-1, 1)])
        self.assertEqual([least_weight(K, letter)[0] for letter in "ab"], [NONE, NONE])
        self.assertEqual(least_weight(Book(("aab",)), "a")[0], (-1, 2))
        self.assertEqual(least_weight(Book(("aab",)), "b")[0], (-2, 1))
        self.assertEqual(least_weight(Book(("aab", "bab")), "b")[0], (-1, 2))
        self.assertEqual(least_weight(Book(("abcdefgh",)), "h")[0], (-7, 1))
        self.assertEqual(least_weight(Book(("aaaaabbb", "abc")), "a")[0], (-3, 5))

    def test_what_is_a_bound(self):
        book = Book(("aab", "b"))
        for number, thing in [
            ((-1, 2), ((1, 2), NONE)), ((-2, 1), ((1, 1), NONE)), ((-2, 1), ((1, 2), (3, 2))), ((-1, 1), ((2, 3), NONE)),
        ]:
            self.flagged(True, is_bound, book, "a", number, thing)
        for number, thing in [
            ((-1, 2), ((1, 2), ONE)), ((0, 1), ((1, 3), NONE)), ((0, 1), (NONE, ONE)), ((-1, 2), ((2, 3), (-1, 2))),
            ((-1, 2), ((2, 4), NONE)), ((-1, 2), ((1, 2),)), ((-1, 2), ((1, 2), NONE, NONE)), ((-1, 2), [(1, 2), NONE]),
            ((1, 1), (NONE, NONE)), ((-1, 2), (NONE, (3, 2))),
        ]:
            self.flagged(False, is_bound, book, "a", number, thing)
        for thing in not_fractions() + odd_things() + deep_things():
            self.flagged(False, is_bound, book, "a", (-1, 2), thing)
            self.flagged(False, is_bound, book, "a", (-1, 2), (thing, NONE))
            self.flagged(False, is_bound, book, "a", (-1, 2), ((1, 2), thing))

    def test_no_letter(self):
        for thing in not_logs() + ["", "ab", "c", "ba", "aa", "h"]:
            self.refused(NoLetter, least_weight, AB, thing)
            self.refused(NoLetter, bound, AB, thing)
            self.refused(NoLetter, is_bound, AB, thing, (-1, 1), (ONE,))
            self.refused(NoLetter, is_bound, AB, thing, None, None)

    def test_no_fraction(self):
        for thing in not_fractions():
            self.refused(NoFraction, is_bound, AB, "a", thing, (ONE,))
            self.refused(NoFraction, is_bound, AB, "a", thing, None)


class TestArguments(Case):

    def test_nothing_is_changed_and_answers_are_new(self):
        weights = {"b": ONE, "a": (-1, 1)}
        weight(AB, weights, "ab")
        is_fitting(AB, weights)
        self.assertEqual(list(weights.items()), [("b", ONE), ("a", (-1, 1))])
        for call in (lambda: least_weight(AB, "a")[1], lambda: barring(AB, "a")):
            first = call()
            again = dict(first)
            first["a"] = None
            self.assertEqual(call(), again)
