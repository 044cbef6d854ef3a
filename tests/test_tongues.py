"""Points 7.1 and 7.2: what comes to tongues, and what they come to."""

from struckpieces.books import Book, letters
from struckpieces.errors import NotClosed, NotEnough, NotOwn, NoTexts, TooMany
from struckpieces.finding import gap, is_right, least_machine
from struckpieces.free import is_enough
from struckpieces.machines import Machine, is_below, least, turned
from struckpieces.tongues import closed_by, coming, least_texts, left_of
from tests.cases import Case
from tests.plain import AB, ABBA, BB, HUGE, K, comes_to_all, counter, does_let, is_least, one_struck, only
from tests.plain import random_book, random_machine, seeded, shortest_first, texts
from tests.things import deep_things, not_logs, odd_things

# Each letter by itself may be struck: a log comes to what is left of it when letters are taken out anywhere.
FULL = Book(("a", "b"))
FEW = {"a": 10, "ab": 7, "abc": 5, "abcd": 4}


def nothing(signs):
    return Machine(signs, ((0,) * len(signs),), (False,))


def everything(signs):
    return Machine(signs, ((0,) * len(signs),), (True,))


def sparse_machine(chance, signs, standings):
    """A machine that lets few texts by: many signs lead to where nothing is let by."""
    rows = [
        tuple(chance.randrange(standings) if chance.random() < 0.5 else standings - 1 for _ in signs)
        for _ in range(standings - 1)
    ]
    rows.append((standings - 1,) * len(signs))
    return Machine(signs, tuple(rows), tuple(chance.random() < 0.4 for _ in rows[1:]) + (False,))


def asked(number):
    """Books that are enough with machines of at most 60 standings, and machines to ask about."""
    chance = seeded(number)
    for _ in range(160):
        book = random_book(chance, chance.choice(["a", "ab", "ab", "abc", "abcd"]), 6, 4, True)
        if not is_enough(book):
            continue
        try:
            least_machine(book)
        except TooMany:
            continue
        yield book, sparse_machine(chance, letters(book), chance.randint(2, 7))
        yield book, random_machine(chance, letters(book), chance.randint(1, 5), 0.3)


class TestComing(Case):

    def test_against_all_strikes(self):
        sizes = {}
        for book, machine in asked(91):
            found = coming(book, machine)
            self.assertEqual((type(found), found.signs), (Machine, machine.signs))
            self.assertTrue(is_least(found))
            sizes[len(found.rows)] = True
            for log in texts(machine.signs, FEW[machine.signs]):
                told = any(does_let(machine, text) for text in comes_to_all(book, log))
                self.assertIs(does_let(found, log), told, (book.pieces, machine.rows, log))
        self.assertGreater(len(sizes), 8)

    def test_of_the_empty_text(self):
        for book in (BB, K, ABBA, FULL, Book(("aaa",))):
            self.assertEqual(coming(book, only(letters(book), "")), least_machine(book))
            self.assertEqual(coming(book, least_machine(book)), least_machine(book))
            self.assertEqual(coming(book, nothing(letters(book))), nothing(letters(book)))
            self.assertEqual(coming(book, everything(letters(book))), everything(letters(book)))

    def test_many_standings(self):
        self.assertEqual(coming(Book(("a",)), counter("a", 300, (299,))).lets, (False,) * 299 + (True,))
        self.assertEqual(coming(Book(("aaa",)), counter("a", 300, range(1, 300, 3))), counter("a", 3, (1,)))
        self.assertEqual(len(coming(FULL, only("ab", "ab" * 149)).rows), 299)
        self.assertEqual(len(coming(Book(("aa", "b")), only("ab", "ab" * 149)).rows), 300)
        self.too_many(300, coming, K, only("ab", "ba" * 149))
        self.too_many(300, coming, K, random_machine(seeded(100), "ab", 300, 0.01))


class TestLeftOf(Case):

    def books_and_machines(self):
        yield from list(asked(92))[:120]
        chance = seeded(93)
        for _ in range(100):
            book = random_book(chance, chance.choice(["ab", "abc"]), 3, 4)
            yield book, sparse_machine(chance, letters(book), chance.randint(2, 9))

    def test_against_all_strikes(self):
        sizes = {}
        for book, machine in self.books_and_machines():
            signs = machine.signs
            found = left_of(book, machine)
            self.assertEqual((type(found), found.signs), (Machine, signs))
            self.assertTrue(is_least(found))
            sizes[len(found.rows)] = True
            left = set()
            for text in texts(signs, FEW[signs]):
                if does_let(machine, text):
                    left |= comes_to_all(book, text)
            self.assertTrue(all(does_let(found, text) for text in left))
            # Nothing is left by more, as what is left of all that is left is just this.
            self.assertTrue(is_below(machine, found))
            self.assertEqual(left_of(book, found), found)
            for text in texts(signs, FEW[signs] - 3):
                if does_let(found, text) and text not in left:
                    self.assertTrue(self.is_left(book, machine, text), (book.pieces, machine.rows, machine.lets, text))
        self.assertGreater(len(sizes), 4)

    def test_machines_that_are_hard_to_guess(self):
        for pieces, rows, lets in [
            (("abab",), ((1, 0), (2, 2), (1, 1)), (False, True, False)),
            (("abb",), ((1, 0), (0, 2), (1, 0)), (False, True, True)),
            (("baab", "bbbb"), ((0, 1), (2, 2), (1, 1)), (True, True, False)),
            (("cc", "bac", "bcc"), ((1, 3, 1), (2, 3, 0), (2, 1, 3), (3, 3, 3)), (False, True, False, False)),
        ]:
            book = Book(pieces)
            machine = Machine(letters(book), rows, lets)
            found = left_of(book, machine)
            self.assertTrue(is_least(found))
            for text in texts(machine.signs, FEW[machine.signs]):
                self.assertIs(does_let(found, text), self.is_left(book, machine, text))

    def is_left(self, book, machine, text):
        """Whether a text is left of one that is let by: standings to which idle logs lead, found by going round."""
        many = range(len(machine.rows))
        leads = {(at, at) for at in many}
        while True:
            more = {(one, three) for one, two in leads for other, three in leads if two == other}
            for piece in book.pieces:
                for start in many:
                    ends = {end for at, end in leads if at == start}
                    for sign in piece:
                        ends = {machine.rows[at][machine.signs.index(sign)] for at in ends}
                        ends = {end for at, end in leads if at in ends}
                    more |= {(start, end) for end in ends}
            if more <= leads:
                break
            leads |= more
        ends = {end for at, end in leads if at == 0}
        for sign in text:
            ends = {machine.rows[at][machine.signs.index(sign)] for at in ends}
            ends = {end for at, end in leads if at in ends}
        return any(machine.lets[at] for at in ends)

    def test_books_that_are_not_enough(self):
        self.assertEqual(left_of(AB, only("ab", "aabb")), closed_under_strikes("ab", ["aabb", "ab", ""]))
        self.assertEqual(left_of(AB, only("ab", "ba")), least(only("ab", "ba")))
        self.assertEqual(left_of(AB, everything("ab")), everything("ab"))
        self.assertEqual(left_of(AB, nothing("ab")), nothing("ab"))

    def test_many_standings(self):
        self.assertEqual(left_of(FULL, counter("ab", 300)), everything("ab"))
        self.assertEqual(len(left_of(FULL, only("ab", "ab" * 149)).rows), 300)
        self.assertEqual(len(left_of(Book(("abab", "bbb")), only("ab", "a" * 298)).rows), 300)
        self.assertEqual(len(left_of(AB, only("ab", "aab" * 80 + "b" * 40)).rows), 282)

    def test_far_too_many_standings(self):
        # Once the a is struck, no telling from the left where it stood: what is so far from the end must be b.
        book = Book(("a", "abaca"))
        for many, expected in ((4, 22), (6, 72), (8, 266), (10, None), (40, None), (290, None)):
            rows = [(1, 0, 0), (many + 2, 2, many + 2)]
            rows += [(many + 2, at + 1, at + 1) for at in range(2, many + 1)] + [(many + 2,) * 3] * 2
            machine = Machine("abc", tuple(rows), tuple(at == many + 1 for at in range(many + 3)))
            if expected is None:
                self.too_many(300, left_of, book, machine)
            else:
                self.assertEqual(len(left_of(book, machine).rows), expected)

    def test_not_own(self):
        for thing in odd_things() + deep_things() + not_logs() + [counter("a", 2), counter("abc", 300)]:
            self.refused(NotOwn, left_of, AB, thing)
            self.refused(NotOwn, left_of, K, thing)
            self.refused(NotOwn, left_of, HUGE, counter("ab", 2))


def closed_under_strikes(signs, found):
    """The least machine that lets just these texts by."""
    many = max(len(text) for text in found) + 1
    beginnings = [text for text in texts(signs, many)]
    rows = [tuple(beginnings.index(text + sign) if len(text) < many else beginnings.index(text) for sign in signs)
            for text in beginnings]
    return least(Machine(signs, tuple(rows), tuple(text in found for text in beginnings)))


class TestLeastTexts(Case):

    def test_against_all_texts(self):
        many = {}
        for book, machine in asked(94):
            closed = coming(book, machine)
            if len(closed.rows) > 60:
                continue
            found = least_texts(book, closed)
            many[len(found)] = True
            self.assertEqual(found, shortest_first(set(found)))
            signs = closed.signs
            told = [
                text for text in texts(signs, FEW[signs])
                if does_let(closed, text) and not any(does_let(closed, left) for left in one_struck(book, text))
            ]
            self.assertEqual([text for text in found if len(text) <= FEW[signs]], told)
            # The fact of tongues.
            if len(found) <= 50 and all(len(text) <= 60 for text in found):
                self.assertEqual(closed_by(book, found), closed)
        self.assertGreater(len(many), 5)

    def test_edges(self):
        for book in (BB, K, FULL, ABBA):
            self.assertEqual(least_texts(book, least_machine(book)), [""])
            self.assertEqual(least_texts(book, nothing(letters(book))), [])
        self.assertEqual(least_texts(FULL, everything("ab")), [""])
        self.assertEqual(least_texts(BB, everything("ab")), ["", "b"])
        self.assertEqual(least_texts(K, everything("ab")), ["", "a", "b", "ba"])
        self.assertEqual(least_texts(BB, Machine("ab", ((2, 1), (1, 0), (0, 3), (3, 2)), (True, False, True, False))), [""])
        self.assertEqual(least_texts(Book(("a",)), coming(Book(("a",)), counter("a", 60, (59,)))), ["a" * 59])

    def test_five_hundred(self):
        # Four times five times five times five texts, and eight times eight times eight.
        book = Book(tuple("abcde"))
        rows = ((1, 1, 1, 1, 0), (2,) * 5, (3,) * 5, (4,) * 5, (4,) * 5)
        found = least_texts(book, Machine("abcde", rows, (False,) * 4 + (True,)))
        self.assertEqual((len(found), found[0], found[-1]), (500, "aaaa", "deee"))
        rows = tuple((min(at + 1, 3),) * 8 for at in range(4))
        self.too_many(500, least_texts, Book(tuple("abcdefgh")), Machine("abcdefgh", rows, (False,) * 3 + (True,)))
        rows = tuple((min(at + 1, 59),) * 2 for at in range(60))
        self.too_many(500, least_texts, FULL, Machine("ab", rows, (False,) * 59 + (True,)))

    def test_501(self):
        # One of one letter beside 500 of four others.
        book = Book(tuple("abcdef"))
        rows = ((1, 1, 1, 1, 0, 4), (2,) * 5 + (4,), (3,) * 5 + (4,), (4,) * 6, (4,) * 6)
        machine = Machine("abcdef", rows, (False,) * 4 + (True,))
        self.too_many(500, least_texts, book, machine)

    def test_not_closed(self):
        for book, machine in asked(95):
            if gap(book, machine) is not None:
                self.refused(NotClosed, least_texts, book, machine)
            else:
                least_texts(book, machine)
        self.refused(NotClosed, least_texts, K, counter("ab", 60))
        self.refused(NotClosed, least_texts, BB, only("ab", ""))

    def test_too_many_standings(self):
        for many in (61, 300):
            self.too_many(60, least_texts, K, counter("ab", many))
            self.too_many(60, least_texts, K, Machine("ab", ((0, 0),) * many, (True,) * many))
        self.assertEqual(least_texts(K, Machine("ab", ((0, 0),) * 60, (True,) * 60)), ["", "a", "b", "ba"])


class TestClosedBy(Case):

    def test_against_all_strikes(self):
        chance = seeded(96)
        for book, machine in list(asked(97))[::2]:
            signs = machine.signs
            chosen = ["".join(chance.choice(signs) for _ in range(chance.randint(0, 5))) for _ in range(chance.randint(0, 4))]
            try:
                found = closed_by(book, chosen)
            except TooMany:
                continue
            self.assertTrue(is_least(found))
            self.assertEqual(closed_by(book, tuple(reversed(chosen))), found)
            for log in texts(signs, FEW[signs]):
                self.assertIs(does_let(found, log), not comes_to_all(book, log).isdisjoint(chosen))

    def test_edges(self):
        for book in (BB, K, ABBA, FULL):
            for none in ([], ()):
                self.assertEqual(closed_by(book, none), nothing("ab"))
            self.assertEqual(closed_by(book, [""]), least_machine(book))
            self.assertEqual(closed_by(book, ["", ""] * 25), least_machine(book))
            self.assertEqual(closed_by(book, ("aab", "b")), closed_by(book, ["b", "aab", "b"]))
        self.assertEqual(least_texts(FULL, closed_by(FULL, ["ab" * 15])), ["ab" * 15])

    def test_fifty_texts_of_sixty_letters(self):
        chance = seeded(98)
        self.assertEqual(closed_by(Book(("aaa",)), ["a" * 60] * 50), closed_by(Book(("aaa",)), ("a" * 60,)))
        self.assertEqual(len(closed_by(Book(("aaa",)), ["a" * 60] * 50).rows), 61)
        self.assertEqual(len(closed_by(FULL, ["ab" * 30] * 50).rows), 61)
        self.assertEqual(len(closed_by(FULL, ["a" * many for many in range(11, 61)]).rows), 12)
        for book in (FULL, K, BB, ABBA):
            self.too_many(300, closed_by, book, ["".join(chance.choice("ab") for _ in range(60)) for _ in range(50)])

    def test_nothing_is_changed_and_lists_are_new(self):
        chosen = ["ba", "", "ba", "a"]
        closed = closed_by(K, chosen)
        self.assertEqual(chosen, ["ba", "", "ba", "a"])
        first = least_texts(K, closed)
        first.append("more")
        self.assertEqual(least_texts(K, closed), first[:-1])
        self.assertEqual(closed_by(K, chosen), closed)

    def test_no_texts(self):
        wrong = odd_things() + deep_things() + [0, "", "ab", {"ab": 1}, [""] * 51, ("",) * 51, ["a" * 61], ("a", "b" * 61)]
        wrong += [["h"], ["abc"], ("a", ["a"]), ["a", 0], iter(["a"])]
        for thing in wrong:
            # Some odd things are lists of texts.
            if thing not in ([], ["a"], ()):
                self.refused(NoTexts, closed_by, K, thing)
        for thing in not_logs():
            self.refused(NoTexts, closed_by, K, [thing])
            self.refused(NoTexts, closed_by, K, ("a", thing, "b"))


class TestTheOrder(Case):

    def test_not_enough_is_first(self):
        for thing in [None, counter("ab", 2), counter("abc", 300), everything("ab")] + deep_things():
            for call in (coming, least_texts, closed_by):
                self.refused(NotEnough, call, AB, thing)
                self.refused(NotEnough, call, Book(("aa", "bbb")), thing)
                self.too_many(60, call, HUGE, thing)

    def test_not_own(self):
        others = [counter("a", 2), counter("abc", 61), counter("bc", 1), counter("abcdefgh", 300)]
        for thing in odd_things() + deep_things() + not_logs() + others:
            self.refused(NotOwn, coming, K, thing)
            self.refused(NotOwn, least_texts, K, thing)

    def test_too_many_standings_before_not_closed(self):
        self.refused(NotClosed, least_texts, K, counter("ab", 60, (1,)))
        self.too_many(60, least_texts, K, counter("ab", 61, (1,)))

    def test_closed_machines(self):
        for book, machine in list(asked(99))[:80]:
            closed = coming(book, machine)
            self.assertIsNone(gap(book, closed))
            self.assertTrue(is_below(machine, closed))
            self.assertEqual(coming(book, closed), closed)
            self.assertEqual(turned(turned(closed)), closed)
            if len(closed.rows) <= 60:
                self.flagged(closed == least_machine(book), is_right, book, closed)
