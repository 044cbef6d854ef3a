"""Point 2.3: what strikings cost. Example e02."""

from struckpieces.books import Book
from struckpieces.errors import NoLog, NoPrices
from struckpieces.logs import left_by
from struckpieces.prices import cheapest, dearest, many_strikes
from struckpieces.tables import is_idle
from tests.cases import Case
from tests.plain import AB, BB, K, NESTS, left, random_book, seeded, strikes_in, texts
from tests.things import deep_things, huge_integers, not_logs, odd_things


def prices_of_all(book, log, prices, known):
    """The pair of the least and the greatest price, going through all strikings, or None."""
    if log == "":
        return 0, 0
    if log not in known:
        found = []
        for place, number in strikes_in(book, log):
            rest = prices_of_all(book, left(book, log, (place, number)), prices, known)
            if rest is not None:
                found.append((rest[0] + prices[number], rest[1] + prices[number]))
        known[log] = (min(low for low, _ in found), max(high for _, high in found)) if found else None
    return known[log]


class TestPrices(Case):

    def held(self, book, log, prices, known):
        found = prices_of_all(book, log, prices, known)
        if found is None:
            self.assertEqual((cheapest(book, log, prices), dearest(book, log, prices)), (None, None))
            return
        for call, price in ((cheapest, found[0]), (dearest, found[1])):
            told, striking = call(book, log, prices)
            self.assertEqual((told, type(told)), (price, int), (book.pieces, log, prices))
            self.assertIs(type(striking), tuple)
            self.assertEqual(left_by(book, log, striking), "")
            self.assertEqual(sum(prices[number] for _, number in striking), price)

    def test_e02(self):
        self.assertEqual(many_strikes(BB, "abab"), (3, 3))

    def test_against_all_strikings(self):
        for book, prices in ((NESTS, (3, 4, 12, 0, 1, 1000)), (BB, (0, 0)), (K, (5, 1, 2))):
            known = {}
            for log in texts("abc", 6):
                self.held(book, log, prices, known)
        chance = seeded(31)
        for _ in range(150):
            book = random_book(chance, chance.choice(["ab", "abc"]))
            prices = tuple(chance.choice([0, 1, 2, 7, 1000]) for _ in book.pieces)
            known = {}
            for _ in range(8):
                self.held(book, "".join(chance.choice("ab") for _ in range(chance.randint(1, 9))), prices, known)

    def test_many_strikes(self):
        known = {}
        for log in texts("abc", 6):
            found = prices_of_all(NESTS, log, (1,) * 6, known)
            self.assertEqual(many_strikes(NESTS, log), found, log)
        self.assertEqual(many_strikes(Book(("a", "aa", "aaa")), "aaaaaaa"), (3, 7))
        self.assertIsNone(many_strikes(AB, "ba"))
        self.assertIsNone(many_strikes(AB, "ahb"))

    def test_edges(self):
        for call in (cheapest, dearest):
            self.assertEqual(call(K, "", (1, 2, 3)), (0, ()))
            self.assertIsNone(call(K, "h", (1, 2, 3)))
            self.assertEqual(call(AB, "a" * 30 + "b" * 30, (1000,))[0], 30000)
        self.assertEqual(many_strikes(K, ""), (0, 0))
        self.assertEqual(many_strikes(AB, "a" * 30 + "b" * 30), (30, 30))
        powers = Book(tuple("a" * many for many in range(1, 9)))
        self.assertEqual(many_strikes(powers, "a" * 60), (8, 60))
        self.assertEqual(cheapest(powers, "a" * 60, (1, 0, 1, 1, 1, 1, 1, 1))[0], 0)
        self.assertEqual(dearest(powers, "a" * 60, (1, 1000, 1, 1, 1, 1, 1, 1))[0], 30000)
        self.assertEqual(cheapest(powers, "a" * 59, (1000, 1000, 300, 1000, 1000, 1000, 1000, 1000))[0], 6100)

    def test_twelve_pieces(self):
        book = Book(("a", "b", "c", "d", "e", "f", "g", "h", "aa", "ab", "ba", "bb"))
        self.assertEqual(cheapest(book, "abab", tuple(range(12)))[0], 2)
        self.assertEqual(dearest(book, "abab", tuple(range(12)))[0], 19)

    def test_no_log(self):
        for thing in not_logs():
            self.refused(NoLog, cheapest, K, thing, (1, 1, 1))
            self.refused(NoLog, dearest, K, thing, None)
            self.refused(NoLog, many_strikes, K, thing)

    def test_no_prices(self):
        wrong = odd_things() + deep_things() + ["", "abc", 0, (), (1, 1), (1, 1, 1, 1), [1, 1, 1], {0: 1, 1: 1, 2: 1}]
        for thing in odd_things() + deep_things() + huge_integers() + ["", "1", -1, 1001, (), (1,)]:
            wrong += [(thing, 1, 1), (1, thing, 1), (1, 1, thing)]
        for prices in wrong:
            for call in (cheapest, dearest):
                self.refused(NoPrices, call, K, "ab", prices)
                self.refused(NoPrices, call, K, "a" * 61, prices)

    def test_too_many(self):
        for log in ("ab" * 30 + "a", "h" * 61, "a" * 20000):
            self.too_many(60, cheapest, K, log, (0, 0, 0))
            self.too_many(60, dearest, K, log, (1000, 1000, 1000))
            self.too_many(60, many_strikes, K, log)

    def test_idle_and_none(self):
        for log in texts("ab", 6):
            self.assertEqual(cheapest(K, log, (0, 1, 1000)) is not None, is_idle(K, log))
