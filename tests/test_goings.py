"""Point 9.1: going on, and what stands between two logs. Example e07."""

from struckpieces.books import Book, letters
from struckpieces.errors import NoLog
from struckpieces.goings import between, dead_letters, fewest_more, going_on
from struckpieces.tables import is_idle
from tests.cases import Case
from tests.plain import AB, ABBA, BB, K, NESTS, idle_logs, random_book, seeded, texts
from tests.things import not_logs

FEW = {"a": 12, "ab": 9, "abc": 6, "abcd": 5}
TWELVE = Book(("abcdefgh", "ab", "bc", "cd", "de", "ef", "fg", "gh", "ha", "aab", "bbc", "ccd"))


def books():
    yield from (BB, AB, K, NESTS, ABBA, Book(("aaa",)), Book(("aba", "bcb")), Book(("abc", "ca")), Book(("abab",)))
    chance = seeded(121)
    for _ in range(120):
        yield random_book(chance, chance.choice(["a", "ab", "ab", "abc", "abcd"]), chance.randint(1, 6), 4)


def idle_by_beginning(book, most):
    """For each beginning of an idle log of at most so many letters the length of the shortest such log."""
    found = {}
    for log in idle_logs(book, most):
        for long in range(len(log) + 1):
            found[log[:long]] = min(len(log), found.get(log[:long], most))
    return found


class TestExample(Case):

    def test_e07(self):
        self.assertEqual((dead_letters(AB), going_on(AB, "aa"), between(AB, "a", "abb")), ("b", "bb", ""))


class TestDeadLetters(Case):

    def test_by_hand(self):
        for pieces, dead in [
            (("ab",), "b"), (("a",), ""), (("ab", "ba"), ""), (("hcba",), "abc"), (("abcdefgh",), "bcdefgh"),
            (("ca", "ab", "cb"), "b"), (("cba", "cab"), "ab"),
        ]:
            self.assertEqual(dead_letters(Book(pieces)), dead)
        self.assertEqual(dead_letters(TWELVE), "")

    def test_the_fact_of_going_on(self):
        dead = 0
        for book in books():
            own = letters(book)
            logs = list(texts(own, FEW[own] - 3))
            self.assertEqual(all(going_on(book, log) is not None for log in logs), dead_letters(book) == "")
            for log in logs:
                if log and log[0] in dead_letters(book):
                    self.assertIsNone(going_on(book, log))
                    dead += 1
        self.assertGreater(dead, 100)


class TestGoingOn(Case):

    def test_against_pieces_put_in(self):
        kinds = {None: 0, "near": 0, "far": 0}
        for book in books():
            own = letters(book)
            most = FEW[own]
            shortest = idle_by_beginning(book, most)
            for log in texts(own, most - 2):
                told = going_on(book, log)
                self.assertEqual(fewest_more(book, log), None if told is None else len(told))
                if told is None:
                    self.assertNotIn(log, shortest)
                    kinds[None] += 1
                    continue
                self.flagged(True, is_idle, book, log + told)
                if log in shortest:
                    self.assertEqual(len(log) + len(told), shortest[log], (book.pieces, log))
                    kinds["near"] += 1
                else:
                    self.assertGreater(len(log) + len(told), most)
                    kinds["far"] += 1
        self.assertGreater(min(kinds.values()), 100)

    def test_all_texts_to_some_length(self):
        for book in (K, AB, ABBA, Book(("aab", "ba"))):
            for log in texts("ab", 5):
                first = [text for text in texts("ab", 7) if is_idle(book, log + text)][:1]
                told = going_on(book, log)
                self.assertEqual(None if told is None else len(told), len(first[0]) if first else None)

    def test_edges(self):
        for book in books():
            self.assertEqual((going_on(book, ""), fewest_more(book, "")), ("", 0))
        self.assertEqual(fewest_more(AB, "ab"), 0)
        self.assertIs(type(fewest_more(AB, "aab")), int)
        self.assertIsNone(going_on(AB, "ba"))
        self.assertEqual(going_on(Book(("abcdefgh",)), "aabc"), "defghbcdefgh")

    def test_foreign_letters(self):
        for log in ("h", "ah", "ha", "abh", "aahb"):
            self.assertIsNone(going_on(AB, log))
            self.assertIsNone(fewest_more(AB, log))

    def test_sixty_letters_and_more(self):
        self.assertEqual(going_on(AB, "a" * 60), "b" * 60)
        self.assertEqual(going_on(Book(("abcdefgh",)), "a" * 60), "bcdefgh" * 60)
        self.assertEqual(fewest_more(AB, "a" * 45 + "b" * 15), 30)
        self.assertEqual(fewest_more(BB, "a" * 31 + "b" * 29), 1)
        self.assertIsNone(going_on(AB, "a" * 29 + "b" * 31))
        self.assertEqual(fewest_more(Book(tuple("a" * many for many in range(5, 9))), "a" * 60), 0)
        for log in ("a" * 61, "ab" * 31, "h" * 61, "a" * 20000):
            self.too_many(60, going_on, AB, log)
            self.too_many(60, fewest_more, AB, log)

    def test_twelve_pieces(self):
        for log in ("abcdefg", "aabbccdd", "hgfedcba", "a" * 60):
            told = going_on(TWELVE, log)
            if len(log) < 60:
                self.flagged(True, is_idle, TWELVE, log + told)
                self.assertFalse([text for text in texts("abcdefgh", min(len(told) - 1, 3)) if is_idle(TWELVE, log + text)])

    def test_no_log(self):
        for thing in not_logs():
            for book in (AB, K):
                self.refused(NoLog, going_on, book, thing)
                self.refused(NoLog, fewest_more, book, thing)


class TestBetween(Case):

    def test_against_pieces_put_in(self):
        chance = seeded(122)
        kinds = {None: 0, "near": 0, "far": 0}
        for book in books():
            own = letters(book)
            most = FEW[own]
            idle = idle_logs(book, most)
            for _ in range(60):
                long = chance.randint(0, most - 1)
                whole = "".join(chance.choice(own) for _ in range(long))
                cut = chance.randint(0, long)
                one, other = whole[:cut], whole[cut:]
                near = [log for log in idle if len(log) >= long and log.startswith(one) and log.endswith(other)]
                told = between(book, one, other)
                if told is None:
                    self.assertEqual(near, [], (book.pieces, one, other))
                    kinds[None] += 1
                    continue
                self.flagged(True, is_idle, book, one + told + other)
                if near:
                    self.assertEqual(long + len(told), min(map(len, near)), (book.pieces, one, other))
                    kinds["near"] += 1
                else:
                    self.assertGreater(long + len(told), most)
                    kinds["far"] += 1
        self.assertGreater(min(kinds.values()), 100)

    def test_all_short_pairs(self):
        for book in (K, AB, Book(("aba", "b")), Book(("abab",)), Book(("aabb", "ab"))):
            idle = idle_logs(book, 12)
            for one in texts("ab", 3):
                for other in texts("ab", 3):
                    near = [
                        log for log in idle
                        if len(log) >= len(one + other) and log.startswith(one) and log.endswith(other)
                    ]
                    told = between(book, one, other)
                    if near:
                        self.assertEqual(len(one + told + other), min(map(len, near)), (book.pieces, one, other))
                    else:
                        self.assertTrue(told is None or len(one + told + other) > 12)

    def test_pieces_over_both(self):
        whole = Book(("abcdefgh",))
        self.assertEqual(between(whole, "ab", "gh"), "cdef")
        self.assertEqual(between(whole, "abc", "defgh"), "")
        # The outer piece has letters of the one log, of the text and of the other one, with a piece on each side.
        self.assertEqual(between(whole, "aab", "hgh"), "cdefgh" + "bcdef" + "abcdefg")
        self.assertEqual(between(whole, "aabc", "defghh"), "defgh" + "bcdefg" + "abc")
        self.assertEqual(between(whole, "a", "h"), "bcdefg")
        self.assertEqual(between(Book(("aba",)), "ab", "ba"), "aa")

    def test_edges(self):
        for book in books():
            self.assertEqual(between(book, "", ""), "")
        self.assertEqual(between(AB, "aa", ""), "bb")
        self.assertEqual(between(AB, "", "bb"), "aa")
        self.assertIsNone(between(AB, "b", ""))
        self.assertIsNone(between(AB, "", "a"))
        self.assertEqual(between(AB, "ab", "ab"), "")

    def test_foreign_letters(self):
        for one, other in [("h", ""), ("", "h"), ("ah", "b"), ("a", "hb"), ("h", "h"), ("ha", "b"), ("a", "bh")]:
            self.assertIsNone(between(AB, one, other))

    def test_forty_letters_and_more(self):
        self.assertEqual(between(AB, "a" * 40, ""), "b" * 40)
        self.assertEqual(between(AB, "", "b" * 40), "a" * 40)
        self.assertEqual(between(AB, "a" * 30, "b" * 10), "b" * 20)
        self.assertEqual(between(AB, "a" * 20, "b" * 20), "")
        self.assertEqual(between(Book(("aaaaaaaa",)), "a" * 19, "a" * 20), "a")
        powers = Book(tuple("a" * many for many in range(1, 9)))
        self.assertEqual(between(powers, "a" * 20, "a" * 20), "")
        for one, other in [("a" * 41, ""), ("", "b" * 41), ("a" * 20, "b" * 21), ("a" * 40, "h"), ("a" * 20000, "")]:
            self.too_many(40, between, AB, one, other)

    def test_no_log(self):
        for thing in not_logs():
            self.refused(NoLog, between, AB, thing, "b")
            self.refused(NoLog, between, AB, "a", thing)
            self.refused(NoLog, between, AB, "a" * 41, thing)
            self.refused(NoLog, between, AB, thing, "b" * 41)
            self.refused(NoLog, between, AB, thing, thing)
