"""Point 15.1: live logs."""

from struckpieces.books import Book, letters
from struckpieces.errors import LogError, NoLog, NoNumber, NoPlace, NotEnough, NothingDone, TooMany
from struckpieces.free import is_enough
from struckpieces.live import Live
from struckpieces.tables import is_idle, least_left
from tests.cases import JudgedCase, enough_books, found_machine
from tests.plain import AB, ABBA, BB, HUGE, K, NESTS, does_let, seeded
from tests.things import deep_things, not_logs, not_numbers, odd_things


def books():
    yield from (BB, K, ABBA, Book(("a" * 7, "a" * 8)), Book(("aab", "ab", "bb", "aa")), Book(tuple("abcdefgh")))
    yield from enough_books(181)


def knots(log):
    """All knots of a log, each with its letters."""
    found = {}
    level = 0
    while log:
        for at in range(0, len(log), 2 ** level):
            found[level, at // 2 ** level] = log[at:at + 2 ** level]
        if 2 ** level >= len(log):
            break
        level += 1
    return found


class Plain:
    """A log, all logs that it was, and an account of its knots."""

    def __init__(self, book):
        self.book = book
        self.log = ""
        self.before = []
        self.known = {}
        self.looked = []

    def changed(self, log):
        """Keeps of the knots those that have the same letters now."""
        there = knots(log)
        self.known = {knot: text for knot, text in self.known.items() if there.get(knot) == text}
        self.log = log

    def put(self, place, text):
        self.before.append(self.log)
        self.changed(self.log[:place] + text + self.log[place:])

    def cut(self, place, many):
        self.before.append(self.log)
        self.changed(self.log[:place] + self.log[place + many:])

    def turn(self, place, text):
        self.before.append(self.log)
        self.changed(self.log[:place] + text + self.log[place + len(text):])

    def take_back(self):
        if not self.before:
            raise NothingDone()
        self.changed(self.before.pop())

    def idle_now(self):
        there = knots(self.log)
        self.looked = sorted(set(there) - set(self.known))
        self.known = there
        return does_let_foreign(self.book, self.log)


def does_let_foreign(book, log):
    """Whether a log of whatever length and letters is idle."""
    return set(log) <= set(letters(book)) and does_let(found_machine(book), log)


def step(chance, book, log, longest):
    """A change, at random."""
    signs = letters(book) * 4 + "h"
    place = chance.randint(0, len(log))
    kind = chance.choice(["put", "put", "cut", "turn", "turn", "same", "take_back"])
    if kind == "put":
        room = min(chance.choice([0, 1, 1, 2, 5, 9]), longest - len(log))
        return "put", place, "".join(chance.choice(signs) for _ in range(room))
    if kind == "cut":
        return "cut", place, min(chance.choice([0, 1, 1, 2, 6]), len(log) - place)
    if kind == "turn":
        room = min(chance.choice([0, 1, 1, 2, 6]), len(log) - place)
        return "turn", place, "".join(chance.choice(signs) for _ in range(room))
    if kind == "same":
        return "turn", place, log[place:place + chance.randint(0, 5)]
    return ("take_back",)


def done(live, deed):
    try:
        return getattr(live, deed[0])(*deed[1:])
    except LogError as error:
        return type(error)


class TestBesideAPlainLog(JudgedCase):

    def test_changes_at_random(self):
        chance = seeded(182)
        kinds = {}
        for book in books():
            for longest in (3, 9, 40):
                live, plain = Live(book), Plain(book)
                for _ in range(60):
                    deed = step(chance, book, plain.log, longest)
                    told = done(plain, deed)
                    self.assertEqual(done(live, deed), told)
                    kinds[deed[0], told] = True
                    self.assertEqual(live.whole(), plain.log)
                    self.assertEqual(live.looked(), plain.looked)
                    if chance.random() < 0.5:
                        told = live.idle_now()
                        self.assertIs(told, plain.idle_now(), (book.pieces, plain.log))
                        self.assertIs(told, is_idle(book, plain.log))
                        self.assertEqual(live.looked(), plain.looked)
                    if chance.random() < 0.3:
                        self.assertEqual(live.least_now(), len(least_left(book, plain.log)), (book.pieces, plain.log))
                        begin = chance.randint(0, len(plain.log))
                        end = chance.randint(begin, len(plain.log))
                        told = live.idle_part(begin, end)
                        self.assertIs(told, is_idle(book, plain.log[begin:end]))
                        self.assertEqual(live.looked(), plain.looked)
        self.assertEqual(len(kinds), 5)

    def test_all_parts(self):
        for book, log in [(BB, "abbabab"), (K, "aabbabh"), (ABBA, "ababbabbaab")]:
            live = Live(book)
            live.put(0, log)
            for begin in range(len(log) + 1):
                for end in range(len(log) + 1):
                    if begin > end:
                        self.refused(NoPlace, live.idle_part, begin, end)
                    else:
                        self.assertIs(live.idle_part(begin, end), is_idle(book, log[begin:end]))
            self.assertEqual(live.looked(), [])

    def test_long_logs(self):
        chance = seeded(183)
        for book in list(books())[:12]:
            live, plain = Live(book), Plain(book)
            log = "".join(chance.choice(letters(book)) for _ in range(1990))
            live.put(0, log)
            plain.put(0, log)
            for _ in range(6):
                self.assertIs(live.idle_now(), plain.idle_now())
                self.assertEqual(live.looked(), plain.looked)
                deed = step(chance, book, plain.log, 2000)
                self.assertEqual(done(live, deed), done(plain, deed))
            log = "".join(chance.choice(letters(book)) for _ in range(1990))
            long = len(plain.log)
            for one in (live, plain):
                one.cut(0, long)
                one.put(0, log + "h")
            part = live.whole()[700:760]
            self.assertIs(live.idle_part(700, 760), is_idle(book, part))
            self.assertIs(live.idle_part(3, 1900), does_let_foreign(book, plain.log[3:1900]))


class TestKnots(JudgedCase):

    def looks(self, live, *found):
        live.idle_now()
        self.assertEqual(live.looked(), list(found))

    def test_by_hand(self):
        live = Live(BB)
        self.assertEqual(live.looked(), [])
        self.looks(live)
        live.put(0, "a")
        self.assertEqual(live.looked(), [])
        self.looks(live, (0, 0))
        self.looks(live)
        live.put(1, "b")
        self.looks(live, (0, 1), (1, 0))
        live.put(2, "a")
        self.looks(live, (0, 2), (1, 1), (2, 0))
        live.put(3, "bb")
        self.looks(live, (0, 3), (0, 4), (1, 1), (1, 2), (2, 0), (2, 1), (3, 0))
        # abab b: a turn of the third letter.
        live.turn(2, "b")
        self.looks(live, (0, 2), (1, 1), (2, 0), (3, 0))
        live.turn(0, "abbbb")
        self.looks(live)
        # More letters ahead, of which some knots have the same as before.
        live.put(0, "ab")
        self.assertEqual(live.whole(), "ababbbb")
        self.looks(live, (0, 2), (0, 5), (0, 6), (1, 1), (1, 2), (1, 3), (2, 0), (2, 1), (3, 0))
        live.cut(4, 3)
        self.looks(live)
        live.cut(3, 1)
        self.looks(live, (1, 1), (2, 0))

    def test_what_is_brought_back_is_worked_out_anew(self):
        live = Live(BB)
        live.put(0, "abab")
        live.idle_now()
        live.turn(1, "a")
        live.turn(1, "b")
        self.looks(live, (0, 1), (1, 0), (2, 0))
        live.turn(1, "a")
        live.take_back()
        self.looks(live, (0, 1), (1, 0), (2, 0))
        live.cut(3, 1)
        live.take_back()
        self.looks(live, (0, 3), (1, 1), (2, 0))
        live.put(4, "a")
        live.cut(4, 1)
        # The letters of the first four are the same with one more behind; no knot that was there is gone.
        self.looks(live)
        live.put(4, "a")
        self.looks(live, (0, 4), (1, 2), (2, 1), (3, 0))
        live.cut(4, 1)
        self.looks(live)
        live.put(4, "a")
        self.looks(live, (0, 4), (1, 2), (2, 1), (3, 0))

    def test_changes_that_change_nothing(self):
        live = Live(BB)
        live.put(0, "aabba")
        live.idle_now()
        for deed in [("turn", 0, "aabba"), ("turn", 2, "b"), ("turn", 5, ""), ("put", 3, ""), ("cut", 2, 0)]:
            self.assertIsNone(done(live, deed))
            self.looks(live)
            live.take_back()
            self.looks(live)
        # The same letters, put in among such.
        live.put(0, "a")
        self.assertEqual(live.whole(), "aaabba")
        self.looks(live, (0, 2), (0, 4), (0, 5), (1, 1), (1, 2), (2, 0), (2, 1), (3, 0))

    def test_no_letters_no_knots(self):
        live = Live(BB)
        live.put(0, "ab")
        live.idle_now()
        live.cut(0, 2)
        self.assertEqual(live.looked(), [(0, 0), (0, 1), (1, 0)])
        self.looks(live)
        live.take_back()
        self.looks(live, (0, 0), (0, 1), (1, 0))

    def test_looked_is_of_the_last_idle_now_alone(self):
        live = Live(BB)
        live.put(0, "abb")
        live.idle_now()
        found = [(0, 0), (0, 1), (0, 2), (1, 0), (1, 1), (2, 0)]
        live.put(0, "a")
        live.least_now()
        live.idle_part(0, 2)
        self.assertEqual(live.looked(), found)
        live.looked().append("more")
        self.assertEqual(live.looked(), found)
        self.looks(live, (0, 1), (0, 3), (1, 0), (1, 1), (2, 0))
        self.looks(live)

    def test_least_and_parts_work_nothing_out(self):
        live = Live(BB)
        live.put(0, "abb")
        live.least_now()
        live.idle_part(0, 3)
        self.looks(live, (0, 0), (0, 1), (0, 2), (1, 0), (1, 1), (2, 0))

    def test_many_knots(self):
        live = Live(K)
        live.put(0, "ab" * 1000)
        live.idle_now()
        self.assertEqual(len(live.looked()), sum(-(-2000 // 2 ** level) for level in range(12)))
        self.assertEqual(live.looked(), sorted(knots("ab" * 1000)))
        live.turn(1999, "a")
        self.looks(live, *[(level, 1999 >> level) for level in range(12)])
        live.cut(1024, 976)
        self.looks(live)
        live.put(1024, "a")
        self.looks(live, *[(level, 1024 >> level) for level in range(12)])


class TestAnswers(JudgedCase):

    def test_a_new_log(self):
        live = Live(BB)
        self.assertEqual((live.whole(), live.least_now()), ("", 0))
        self.assertIs(live.idle_now(), True)
        self.assertIs(live.idle_part(0, 0), True)

    def test_what_methods_return(self):
        live = Live(BB)
        self.assertIsNone(live.put(0, "ab"))
        self.assertIsNone(live.turn(0, "b"))
        self.assertIs(live.idle_now(), True)
        self.assertIsNone(live.cut(0, 1))
        self.assertIs(live.idle_now(), False)
        self.assertEqual((live.least_now(), type(live.least_now())), (1, int))
        self.assertIsNone(live.take_back())
        self.assertEqual(live.whole(), "bb")

    def test_take_back(self):
        live = Live(BB)
        self.refused(NothingDone, live.take_back)
        found = [""]
        for deed in [("put", 0, "ab"), ("put", 1, "hb"), ("turn", 0, "bb"), ("cut", 1, 2), ("put", 2, ""), ("cut", 2, 0),
                     ("cut", 0, 2), ("put", 0, "abab"), ("turn", 4, "")]:
            done(live, deed)
            found.append(live.whole())
        while len(found) > 1:
            self.assertEqual(live.whole(), found.pop())
            live.take_back()
        self.assertEqual(live.whole(), "")
        self.refused(NothingDone, live.take_back)
        live.put(0, "a")
        live.take_back()
        self.refused(NothingDone, live.take_back)

    def test_foreign_letters(self):
        live = Live(BB)
        live.put(0, "abhbb")
        self.assertIs(live.idle_now(), False)
        self.assertIs(live.idle_part(3, 5), True)
        self.assertIs(live.idle_part(1, 4), False)
        self.assertEqual(live.least_now(), 2)
        live.cut(2, 1)
        self.assertIs(live.idle_now(), False)
        live.put(0, "bha")
        self.assertEqual(live.least_now(), 3)
        live.turn(1, "a")
        self.assertIs(live.idle_now(), True)

    def test_least_of_long_logs(self):
        live = Live(K)
        live.put(0, "ba" * 1000)
        self.assertEqual(live.least_now(), len(least_left(K, "ba" * 30)))
        live.turn(0, "h" * 2000)
        self.assertEqual(live.least_now(), 2000)
        seven = Live(Book(("a" * 7, "a" * 8)))
        for many, least in [(41, 1), (42, 0), (13, 5), (6, 6), (2000, 0)]:
            seven.cut(0, len(seven.whole()))
            seven.put(0, "a" * many)
            self.assertEqual(seven.least_now(), least)
        # Stretches that are idle are struck apart: each ab by itself, and of the rest all but three.
        third = Live(Book(("aaa", "bbb", "abab", "ba")))
        third.put(0, "a" * 1000 + "h" + "b" * 999)
        self.assertEqual(third.least_now(), 2)

    def test_live_logs_are_equal_to_nothing_else(self):
        live = Live(BB)
        for thing in odd_things() + deep_things() + ["", BB]:
            self.assertFalse(live == thing)
            self.assertTrue(live != thing)


class TestWrong(JudgedCase):

    def test_books_come_first(self):
        for book in (AB, NESTS, Book(("abcdefgh",)), Book(("aa", "bbb"))):
            if not is_enough(book):
                self.refused(NotEnough, Live, book)
        self.too_many(60, Live, HUGE)

    def test_two_thousand_letters(self):
        live = Live(BB)
        self.too_many(2000, live.put, 0, "a" * 2001)
        self.too_many(2000, live.put, 0, "a" * 20000)
        live.put(0, "a" * 1999)
        self.too_many(2000, live.put, 7, "ab")
        live.put(7, "b")
        self.too_many(2000, live.put, 7, "b")
        live.put(2000, "")
        self.assertEqual(live.whole(), "a" * 7 + "b" + "a" * 1992)
        live.turn(0, "b" * 2000)
        self.assertIs(live.idle_now(), True)
        live.cut(0, 1)
        live.put(1999, "a")
        self.assertEqual(live.least_now(), 1)

    def test_no_place(self):
        live = Live(BB)
        live.put(0, "aab")
        for thing in not_numbers() + [4, 10 ** 39]:
            for text in ("a", "", None, "a" * 2001):
                self.refused(NoPlace, live.put, thing, text)
                self.refused(NoPlace, live.turn, thing, text)
            for many in (0, 1, None, 9):
                self.refused(NoPlace, live.cut, thing, many)
                self.refused(NoPlace, live.idle_part, thing, many)
            for begin in (0, 3):
                self.refused(NoPlace, live.idle_part, begin, thing)
        self.refused(NoPlace, live.idle_part, 2, 1)
        self.assertEqual(live.whole(), "aab")

    def test_no_log(self):
        live = Live(BB)
        live.put(0, "aab")
        for thing in not_logs():
            self.refused(NoLog, live.put, 3, thing)
            self.refused(NoLog, live.turn, 3, thing)
            self.refused(NoLog, live.turn, 0, thing)
        self.refused(NoLog, live.put, 3, "a" * 2000 + "i")
        self.refused(NoLog, live.turn, 3, "abci")
        self.assertEqual(live.whole(), "aab")

    def test_no_number(self):
        live = Live(BB)
        live.put(0, "aab")
        for thing in not_numbers() + [4, 10 ** 39]:
            self.refused(NoNumber, live.cut, 0, thing)
            self.refused(NoNumber, live.cut, 3, thing)
        self.refused(NoNumber, live.cut, 1, 3)
        self.refused(NoNumber, live.cut, 3, 1)
        for place, text in [(0, "aaaa"), (1, "aaa"), (3, "a"), (0, "a" * 20000)]:
            self.refused(NoNumber, live.turn, place, text)
        self.assertEqual(live.whole(), "aab")

    def test_an_error_changes_nothing(self):
        live = Live(BB)
        live.put(0, "aab")
        live.idle_now()
        for call, error in [
            ((live.put, 4, "a"), NoPlace), ((live.put, 0, "i"), NoLog), ((live.put, 0, "a" * 1998), TooMany),
            ((live.cut, 0, 4), NoNumber), ((live.turn, 0, "aaaa"), NoNumber), ((live.idle_part, 1, 0), NoPlace),
        ]:
            self.refused(error, *call)
        live.idle_now()
        self.assertEqual((live.whole(), live.looked()), ("aab", []))
        live.take_back()
        self.refused(NothingDone, live.take_back)
        self.assertEqual((live.whole(), live.least_now()), ("", 0))
