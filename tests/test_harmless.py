"""Point 13.1: harmless strikes, and the head of part 4. Example e10."""

from unittest import mock

from struckpieces import harmless
from struckpieces.books import Book, letters
from struckpieces.errors import NoLog, NoStrike, NotEnough, TooMany
from struckpieces.free import is_enough
from struckpieces.harmless import cleaned, harm, harmless_strikes, is_harmless, kept_logs
from struckpieces.logs import left_by, strikes
from struckpieces.machines import reached
from struckpieces.tables import is_idle
from tests.cases import Case, JudgedCase, enough_books, found_machine
from tests.plain import AB, ABBA, BB, HUGE, K, idle_logs, left, one_struck, seeded, shortest_first, strikes_in, texts
from tests.things import deep_things, huge_integers, not_logs, odd_things

NOT_ENOUGH = (AB, Book(("abcdefgh",)), Book(("aa", "bbb")))
FEW = {"a": 10, "ab": 7, "abc": 5, "abcd": 4, "abcdefgh": 2}


def books(number=161, many=60):
    """Books that are enough and have a machine of at most 60 standings."""
    yield from (BB, K, ABBA, Book(("a" * 7, "a" * 8)), Book(("aab", "ab", "bb", "aa")), Book(tuple("abcdefgh")))
    yield from enough_books(number, many)


def some_logs(book, longest=14):
    chance = seeded(162)
    own = letters(book)
    yield from texts(own, {1: 9, 2: 4}.get(len(own), 2))
    for _ in range(12):
        yield "".join(chance.choice(own) for _ in range(chance.randint(3, longest)))


def first_harm(idle, signs, log, other, most):
    """The first text of at most so many letters behind which just one of two logs is among the idle ones."""
    for text in texts(signs, most):
        if (log + text in idle) != (other + text in idle):
            return text
    return None


def alike(book, log, other):
    """Whether two logs of own letters are idle with the same texts behind them."""
    machine = found_machine(book)
    return reached(machine, log) == reached(machine, other)


class TestExample(Case):

    def test_e10(self):
        self.assertEqual(kept_logs(BB), ["", "b"])


class TestHarm(JudgedCase):

    def test_all_texts_to_some_length(self):
        kinds = {None: 0, "found": 0}
        for book in books():
            own = letters(book)
            most = FEW[own] - 2
            long = {"a": 12, "ab": 6, "abc": 4, "abcd": 3, "abcdefgh": 2}[own]
            idle = idle_logs(book, most + long)
            for log in texts(own, long):
                for strike in strikes_in(book, log):
                    first = first_harm(idle, own, log, left(book, log, strike), most)
                    told = harm(book, log, strike)
                    self.flagged(told is None, is_harmless, book, log, strike)
                    if first is not None:
                        self.assertEqual(told, first, (book.pieces, log, strike))
                        kinds["found"] += 1
                    else:
                        self.assertTrue(told is None or len(told) > most)
                        kinds[None] += 1
        self.assertGreater(min(kinds.values()), 500)

    def test_harmless_strikes(self):
        for book in books():
            for log in some_logs(book, 40):
                found = harmless_strikes(book, log)
                self.assertIs(type(found), list)
                self.assertEqual(found, [
                    strike for strike in strikes_in(book, log) if alike(book, log, left(book, log, strike))
                ])
                self.assertEqual(found, [strike for strike in strikes(book, log) if is_harmless(book, log, strike)])

    def test_by_hand(self):
        # With a behind, aab and a are idle, b is not.
        self.assertEqual(harm(K, "aab", (0, 0)), "a")
        self.assertEqual(harmless_strikes(K, "aab"), [(1, 2)])
        self.assertEqual(harm(K, "aab", (1, 2)), None)
        self.assertEqual(harmless_strikes(BB, "abab"), [(0, 0), (2, 0)])
        self.assertEqual(harmless_strikes(BB, ""), [])
        self.assertEqual(harmless_strikes(Book(("aa", "aaa")), "aaa"), [])
        self.assertEqual(harm(Book(("aa", "aaa")), "aaa", (0, 0)), "")
        self.assertEqual(harm(Book(("aa", "aaa")), "aaa", (0, 1)), "a")
        self.assertEqual(harmless_strikes(Book(("aa", "aaa")), "aaaa"), [(0, 0), (1, 0), (2, 0)])

    def test_foreign_letters(self):
        for log in ("haab", "aabh", "ahab", "aahbb", "h", "hbbh"):
            self.assertEqual(harmless_strikes(K, log), strikes_in(K, log))
            for strike in strikes_in(K, log):
                self.assertIsNone(harm(K, log, strike))
                self.flagged(True, is_harmless, K, log, strike)

    def test_long_logs(self):
        log = "ba" * 9999 + "bb"
        found = harmless_strikes(BB, log)
        self.assertEqual(found, [(place, 0) for place in range(1, 19999, 2)] + [(19998, 1)])
        self.assertEqual(harmless_strikes(K, "h" * 19998 + "ab"), [(19998, 2)])

    def test_lists_are_new(self):
        harmless_strikes(K, "aab").append("more")
        self.assertEqual(harmless_strikes(K, "aab"), [(1, 2)])
        kept_logs(BB).append("more")
        self.assertEqual(kept_logs(BB), ["", "b"])


def plainly_cleaned(book, log):
    """Always the first harmless strike, all asked for anew."""
    striking = []
    while harmless_strikes(book, log):
        striking.append(harmless_strikes(book, log)[0])
        log = left(book, log, striking[-1])
    return tuple(striking), log


class TestCleaned(JudgedCase):

    def test_strike_by_strike(self):
        for book in books():
            for log in some_logs(book, 30):
                told = cleaned(book, log)
                self.assertEqual(told, plainly_cleaned(book, log), (book.pieces, log))
                self.assertEqual((type(told), type(told[0])), (tuple, tuple))
                self.assertEqual(left_by(book, log, told[0]), told[1])

    def test_foreign_letters(self):
        chance = seeded(163)
        for book in books():
            for _ in range(6):
                log = "".join(chance.choice(letters(book) * 5 + "hg") for _ in range(chance.randint(1, 30)))
                self.assertEqual(cleaned(book, log), plainly_cleaned(book, log), (book.pieces, log))

    def test_by_hand(self):
        self.assertEqual(cleaned(K, "aab"), (((1, 2),), "a"))
        self.assertEqual(cleaned(BB, "abab"), (((0, 0), (1, 0), (0, 1)), ""))
        self.assertEqual(cleaned(BB, ""), ((), ""))
        self.assertEqual(cleaned(Book(("a" * 8,)), "a" * 20), (((0, 0), (0, 0)), "aaaa"))
        self.assertEqual(cleaned(Book(("b", "a" * 8)), "aaaabaaaab"), (((4, 0), (0, 1), (0, 0)), ""))
        # Foreign letters make all harmless: it is the first place that counts, not the first that ends.
        self.assertEqual(cleaned(Book(("a", "bab", "bb")), "hbab"), (((1, 1),), "h"))
        self.assertEqual(cleaned(Book(("a", "bab", "bb")), "bab"), (((0, 1),), ""))
        self.assertEqual(cleaned(Book(("ba", "a", "b", "cc")), "hcbac"), (((2, 0), (1, 3)), "h"))

    def test_the_fact_of_cleaning(self):
        chance = seeded(164)
        for book in books():
            try:
                every = kept_logs(book)
            except TooMany:
                continue
            longest = len(every[-1])
            log = whole = ""
            for _ in range(40):
                letter = chance.choice(letters(book))
                whole += letter
                log = cleaned(book, log + letter)[1]
                self.assertLessEqual(len(log), longest)
                self.assertIn(log, every)
                self.flagged(is_idle(book, whole), is_idle, book, log)
                self.assertTrue(alike(book, whole, log))

    def test_harmless_strikes_in_whatever_order(self):
        for book in list(books(165, 25)):
            for log in list(some_logs(book, 9))[-8:]:
                ways = [log]
                seen = set(ways)
                rests = set()
                while ways:
                    here = ways.pop()
                    found = [left(book, here, strike) for strike in harmless_strikes(book, here)]
                    if not found:
                        rests.add(here)
                    ways += [other for other in found if other not in seen]
                    seen.update(found)
                self.assertIn(cleaned(book, log)[1], rests)
                for rest in rests:
                    self.assertTrue(alike(book, log, rest))

    def test_long_logs(self):
        self.assertEqual(cleaned(BB, "ba" * 10000)[1], "")
        self.assertEqual(cleaned(Book(("a",)), "a" * 20000), (((0, 0),) * 20000, ""))
        self.assertEqual(cleaned(Book(("a", "b")), "h" + "ab" * 9999 + "h")[1], "hh")
        seven = Book(("a" * 7, "a" * 8))
        # 20000 and 106 are 43 and some sevens; eight less than 43 would not be idle alike.
        self.assertEqual(cleaned(seven, "a" * 20000), (((0, 0),) * 2851, "a" * 43))
        self.assertEqual(plainly_cleaned(seven, "a" * 106)[1], "a" * 43)
        chance = seeded(166)
        log = "".join(chance.choice("ab") for _ in range(20000))
        striking, rest = cleaned(ABBA, log)
        self.assertEqual(left_by(ABBA, log, striking), rest)
        self.assertTrue(alike(ABBA, log, rest))
        self.assertEqual(harmless_strikes(ABBA, rest), [])
        self.assertEqual(striking[:40], plainly_cleaned_ahead(ABBA, log, 40))


def plainly_cleaned_ahead(book, log, many):
    striking = []
    for _ in range(many):
        striking.append(harmless_strikes(book, log)[0])
        log = left(book, log, striking[-1])
    return tuple(striking)


class TestKeptLogs(JudgedCase):

    def test_all_logs(self):
        for book in books():
            try:
                told = kept_logs(book)
            except TooMany as error:
                self.assertEqual(error.most, 2000)
                continue
            self.assertEqual(told, shortest_first(told))
            for log in told[-200:]:
                self.assertFalse([other for other in one_struck(book, log) if alike(book, log, other)])
            for log in texts(letters(book), FEW[letters(book)]):
                kept = not any(alike(book, log, other) for other in one_struck(book, log))
                self.assertEqual(log in told, kept, (book.pieces, log))
            # What is longer by a letter than a kept log and no kept one has a harmless strike, and so has all beyond.
            for log in told[-60:]:
                for letter in letters(book):
                    self.assertEqual(log + letter in told, harmless_strikes(book, log + letter) == [])

    def test_how_many(self):
        self.assertEqual(len(kept_logs(ABBA)), 258)
        self.assertEqual(kept_logs(Book(("a" * 8,))), ["a" * many for many in range(8)])
        self.assertEqual(kept_logs(Book(tuple("abcdefgh"))), [""])
        self.assertEqual(kept_logs(Book(("aa", "aaa"))), ["", "a", "aa", "aaa"])
        self.assertEqual(len(kept_logs(Book(("a", "abbb", "bbbb")))), 1135)

    def test_more_than_twothousand(self):
        self.too_many(2000, kept_logs, Book(("a", "abbbbb", "bbbb")))
        self.too_many(2000, kept_logs, Book(("b", "ab", "aaaaaa")))
        for most, book in [(258, ABBA), (2, BB), (1, Book(("a",)))]:
            with mock.patch.object(harmless, "MOST_KEPT", most):
                self.assertEqual(len(kept_logs(book)), most)
            with mock.patch.object(harmless, "MOST_KEPT", most - 1):
                self.too_many(most - 1, kept_logs, book)


class TestWrong(Case):

    def calls(self, book, log, strike):
        return (
            (is_harmless, book, log, strike), (harm, book, log, strike),
            (harmless_strikes, book, log), (cleaned, book, log),
        )

    def test_not_enough_comes_first(self):
        for book in NOT_ENOUGH:
            self.assertFalse(is_enough(book))
            for thing in ["", "aab", None, 7]:
                for call in self.calls(book, thing, None):
                    self.refused(NotEnough, *call)
            self.refused(NotEnough, kept_logs, book)

    def test_more_than_sixty_comes_first(self):
        for thing in ["", "aab", None, 7]:
            for call in self.calls(HUGE, thing, None):
                self.too_many(60, *call)
        self.too_many(60, kept_logs, HUGE)

    def test_no_log(self):
        for thing in not_logs():
            for call in self.calls(K, thing, None) + self.calls(K, thing, (0, 0)):
                self.refused(NoLog, *call)

    def test_no_strike(self):
        wrong = odd_things() + deep_things() + huge_integers() + [
            0, "", "ab", (), (0,), (0, 0, 0), (0, 1), (2, 0), (1, 0), (-3, 0), (0, -3), (3, 0), (0, 3),
            (False, 0), (0, False), (True, 2), [0, 0], ((0, 0),), ("0", "0"),
        ]
        for thing in wrong:
            self.refused(NoStrike, is_harmless, K, "aab", thing)
            self.refused(NoStrike, harm, K, "aab", thing)
        self.refused(NoStrike, harm, K, "", (0, 0))
        self.refused(NoStrike, harm, K, "hab", (0, 2))
