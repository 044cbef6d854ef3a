"""Points 6.1 and 6.2: families and refutals."""

from fractions import Fraction

from struckpieces.books import Book, letters
from struckpieces.errors import Enough, NoNumber, NotOwn, TooMany
from struckpieces.free import is_enough
from struckpieces.machines import Machine
from struckpieces.refuters import family, is_family, is_refutal, refutal, refuted
from tests.cases import Case
from tests.plain import AB, BB, K, comes_to_all, counter, does_let, has_piece, idle_logs, one_struck, only
from tests.plain import random_book, random_machine, seeded, strikes_in, texts
from tests.things import deep_things, huge_integers, not_logs, not_numbers, odd_things

ONE = (1, 1)
UP = {"a": (1, 1), "b": (-1, 1)}
DOWN = {"a": (-1, 1), "b": (1, 1)}
# Powers of both letters are pieces, but ab may be repeated.
PAIR = Book(("aa", "bbb"))
WHOLE = Book(("a" * 8, "b" * 8, "c" * 8, "d" * 8, "e" * 8, "f" * 8, "g" * 8, "h" * 8, "ab", "cd", "ef", "gh"))


def books():
    yield from (AB, PAIR, WHOLE, Book(("aaa", "bb", "ba")), Book(("abcdefgh",)), Book(("aba", "b")), Book(("ba",)))
    chance = seeded(71)
    for _ in range(120):
        yield random_book(chance, chance.choice(["ab", "abc", "abcd"]), 5, 4, chance.random() < 0.6)


def endless_books():
    return [book for book in books() if not is_enough(book)]


def weight_of(weights, text):
    return sum((Fraction(*weights[letter]) for letter in text), Fraction(0))


def fits(book, weights):
    own = isinstance(weights, dict) and sorted(weights) == list(letters(book))
    return own and all(weight_of(weights, piece) >= 0 for piece in book.pieces)


def least_power(book, letter):
    powers = [len(piece) for piece in book.pieces if piece == letter * len(piece)]
    return min(powers) if powers else None


def is_back(book, text, back):
    told = "".join(letter * (least_power(book, letter) - 1) for letter in reversed(text))
    return text != "" and not has_piece(book, text * 20) and back == told


class RefuterCase(Case):

    def is_family(self, book, found):
        """Judged from the words alone."""
        self.assertIs(type(found), tuple)
        if found[0] == "weights":
            _, front, back, weights = found
            self.assertIn(front + back, book.pieces)
            self.assertTrue(fits(book, weights))
            self.assertEqual(weight_of(weights, front + back), 0)
            self.assertNotEqual(weight_of(weights, front), 0)
        else:
            kind, text, back = found
            self.assertEqual(kind, "backs")
            self.assertTrue(is_back(book, text, back))

    def is_refutal(self, book, lets, found):
        """Judged from the words alone; lets tells whether a machine or program lets a text by."""
        self.assertEqual((type(found), len(found)), (tuple, 3))
        kind, text, shown = found
        self.assertLessEqual(set(text), set(letters(book)))
        self.assertIs(lets(text), kind != "idle")
        if kind == "idle":
            left = text
            for place, number in shown:
                piece = book.pieces[number]
                self.assertEqual(left[place:place + len(piece)], piece)
                left = left[:place] + left[place + len(piece):]
            self.assertEqual(left, "")
        elif kind == "weights":
            self.assertTrue(fits(book, shown))
            self.assertLess(weight_of(shown, text), 0)
        else:
            self.assertEqual(kind, "backs")
            front, fronts, back, backs = shown
            self.assertTrue(is_back(book, front, back))
            self.assertEqual(text, front * fronts + back * backs)
            longest = max(len(piece) for piece in book.pieces)
            self.assertGreater(len(front) * fronts, longest * len(back) * backs)


class TestFamilies(RefuterCase):

    def test_families(self):
        kinds = {"weights": 0, "backs": 0}
        for book in books():
            if is_enough(book):
                self.refused(Enough, family, book)
                continue
            found = family(book)
            self.is_family(book, found)
            self.flagged(True, is_family, book, found)
            kinds[found[0]] += 1
        self.assertGreater(min(kinds.values()), 10)

    def test_the_fact_of_families(self):
        for book in (AB, PAIR, Book(("aba", "bb")), Book(("aab",))):
            found = family(book)
            front, back = found[1], found[2]
            longest = max(len(piece) for piece in book.pieces)
            idle = idle_logs(book, 12)
            for fronts in range(5):
                for backs in range(5):
                    text = front * fronts + back * backs
                    if len(text) > 12:
                        continue
                    if fronts == backs:
                        self.assertIn(text, idle)
                    elif found[0] == "backs":
                        if len(front) * fronts > longest * len(back) * backs:
                            self.assertNotIn(text, idle)
                    elif (fronts < backs) == (weight_of(found[3], front) > 0):
                        self.assertNotIn(text, idle)

    def test_what_is_a_family(self):
        for thing in [("weights", "a", "b", UP), ("weights", "a", "b", DOWN), ("weights", "a", "b", {"b": (-2, 3), "a": (2, 3)})]:
            self.flagged(True, is_family, AB, thing)
        zero = {"a": (0, 1), "b": (0, 1)}
        for thing in [
            ("weights", "b", "a", UP), ("weights", "ab", "", UP), ("weights", "", "ab", UP), ("weights", "a", "b", zero),
            ("weights", "a", "b", {"a": (1, 1), "b": (0, 1)}), ("weights", "a", "b", {"a": (0, 1), "b": (-1, 1)}),
            ("weights", "a", "b", {"a": (1, 1)}), ("weights", "a", "b"), ("weights", "a", "b", UP, 0), ["weights", "a", "b", UP],
            ("backs", "a", "b", UP), ("backs", "a", ""), ("backs", "b", "a"), ("Weights", "a", "b", UP), ("weights",), (), "weights",
        ]:
            self.flagged(False, is_family, AB, thing)
        for thing in [("backs", "ab", "bba"), ("backs", "ba", "abb"), ("backs", "babba", "abbbbabb")]:
            self.flagged(True, is_family, PAIR, thing)
        for thing in [
            ("backs", "ab", "abb"), ("backs", "aba", "abba"), ("backs", "", ""), ("backs", "b", "bb"), ("backs", "ab", "bba", 0),
            ("backs", "ab"), ("backs", "abh", "bba"), ("backs", "ab", "bbaa"), ("weights", "ab", "bba"),
            ("weights", "a", "a", {"a": (0, 1), "b": (0, 1)}), ("weights", "a", "a", {"a": (1, 1), "b": (0, 1)}),
        ]:
            self.flagged(False, is_family, PAIR, thing)

    def test_more_than_one_family(self):
        book = Book(("ab", "aab", "bbb"))
        self.flagged(False, is_family, book, ("weights", "a", "ab", DOWN))
        self.flagged(False, is_family, book, ("weights", "a", "b", UP))
        self.flagged(True, is_family, book, ("weights", "a", "ab", {"a": (-1, 1), "b": (2, 1)}))
        self.flagged(True, is_family, book, ("weights", "aa", "b", {"a": (-1, 1), "b": (2, 1)}))
        self.flagged(False, is_family, book, ("weights", "a", "b", {"a": (-1, 1), "b": (2, 1)}))

    def test_letters_without_powers_have_no_backs(self):
        book = Book(("aa", "bb", "abc"))
        self.flagged(False, is_family, book, ("backs", "abc", "ba"))
        self.flagged(False, is_family, book, ("backs", "ac", "a"))
        self.flagged(True, is_family, book, ("backs", "ab", "ba"))
        self.flagged(True, is_family, book, ("backs", "abab", "baba"))

    def test_the_least_power_counts(self):
        book = Book(("aaaa", "bb", "aaa", "bbbb"))
        self.flagged(True, is_family, book, ("backs", "ab", "baa"))
        self.flagged(False, is_family, book, ("backs", "ab", "baaa"))

    def test_enough_books_have_none(self):
        for book in (K, BB):
            self.refused(Enough, family, book)
            for thing in [("backs", "ab", "ba"), ("backs", "a", ""), ("weights", "a", "b", UP), ("weights", "b", "b", UP)]:
                self.flagged(False, is_family, book, thing)

    def test_odd_and_deep_things(self):
        for thing in odd_things() + deep_things() + not_logs():
            for book in (AB, PAIR, K):
                self.flagged(False, is_family, book, thing)
                self.flagged(False, is_family, book, (thing, "a", "b", UP))
                self.flagged(False, is_family, book, ("weights", thing, "b", UP))
                self.flagged(False, is_family, book, ("weights", "a", thing, UP))
                self.flagged(False, is_family, book, ("weights", "a", "b", thing))
                self.flagged(False, is_family, book, ("weights", "a", "b", {"a": thing, "b": ONE}))
                self.flagged(False, is_family, book, ("backs", thing, "bba"))
                self.flagged(False, is_family, book, ("backs", "ab", thing))


class TestRefutals(RefuterCase):

    def held(self, book, machine):
        found = refutal(book, machine)
        self.is_refutal(book, lambda text: does_let(machine, text), found)
        self.flagged(True, is_refutal, book, machine, found)
        return found[0]

    def test_every_machine_errs(self):
        chance = seeded(72)
        kinds = []
        for book in endless_books():
            for _ in range(6):
                machine = random_machine(chance, letters(book), chance.choice([1, 2, 5, 60]), chance.choice([0, 0.3, 0.7, 1]))
                kinds.append(self.held(book, machine))
        self.assertGreater(min(kinds.count(kind) for kind in ("idle", "weights", "backs")), 20)

    def test_three_hundred_standings(self):
        for book in (AB, PAIR, WHOLE, Book(("abcdefgh",))):
            own = letters(book)
            for many in (1, 60, 61, 300):
                for lets in (range(many), (), range(0, many, 2), [many - 1]):
                    self.held(book, counter(own, many, lets))
                    line = tuple((min(at + 1, many - 1),) * len(own) for at in range(many))
                    self.held(book, Machine(own, line, tuple(at in lets for at in range(many))))

    def test_a_machine_that_is_right_for_short_texts(self):
        # It counts how many a stand open, up to 98.
        rows = [(1, 99)] + [(min(at + 1, 99), at - 1) for at in range(1, 99)] + [(99, 99)]
        machine = Machine("ab", tuple(rows), tuple(at == 0 for at in range(100)))
        self.held(AB, machine)
        self.flagged(True, is_refutal, AB, machine, ("idle", "a" * 99 + "b" * 99, tuple((at, 0) for at in reversed(range(99)))))
        self.flagged(False, is_refutal, AB, machine, ("idle", "a" * 98 + "b" * 98, tuple((at, 0) for at in reversed(range(98)))))

    def test_what_is_a_refutal(self):
        nothing, everything = (Machine("ab", ((0, 0),), (flag,)) for flag in (False, True))
        self.flagged(True, is_refutal, AB, nothing, ("idle", "", ()))
        self.flagged(True, is_refutal, AB, nothing, ("idle", "ab", ((0, 0),)))
        self.flagged(True, is_refutal, AB, everything, ("weights", "b", UP))
        self.flagged(True, is_refutal, AB, everything, ("weights", "ba" * 50 + "a", DOWN))
        self.flagged(True, is_refutal, PAIR, everything, ("backs", "ab", ("ab", 1, "bba", 0)))
        self.flagged(True, is_refutal, PAIR, everything, ("backs", "ab" * 5 + "bba", ("ab", 5, "bba", 1)))
        for thing in [
            ("idle", "", ((0, 0),)), ("idle", "ab", ()), ("idle", "ab", [(0, 0)]), ("idle", "ab", ((0, 0), (0, 0))),
            ("idle", "ah", ()), ("idle", "h", ()), ("idle", "ab"), ("idle", "ab", ((0, 0),), 0), ["idle", "", ()],
            ("weights", "b", UP), ("idle", "b", UP), ("Idle", "", ()), ("", "", ()), ("backs", "", ("", 0, "", 0)),
        ]:
            self.flagged(False, is_refutal, AB, nothing, thing)
        for thing in [
            ("idle", "", ()), ("idle", "ab", ((0, 0),)), ("weights", "a", UP), ("weights", "", UP), ("weights", "ab", UP),
            ("weights", "b", {"a": ONE, "b": (-2, 1)}), ("weights", "b", {"b": (-1, 1)}), ("weights", "h", UP),
            ("weights", "b", None), ("backs", "b", UP), ("backs", "a", ("a", 1, "", 0)), ("weights", "b"),
        ]:
            self.flagged(False, is_refutal, AB, everything, thing)
        for thing in [
            ("backs", "ab" * 4 + "bba", ("ab", 4, "bba", 1)), ("backs", "ab" * 5 + "bba", ("ab", 5, "bba", 0)),
            ("backs", "ab" * 5 + "bba", ["ab", 5, "bba", 1]), ("backs", "ab" * 5 + "abb", ("ab", 5, "abb", 1)),
            ("backs", "", ("ab", 0, "bba", 0)), ("backs", "ab", ("ab", True, "bba", False)), ("backs", "ab", ("ab", 1, "bba", -1)),
            ("backs", "abab", ("ab", 1, "bba", 0)), ("backs", "ab", ("ab", 2, "bba", 0)), ("backs", "ab", ("ab", 1, "bba")),
            ("backs", "ab" * 4 + "ba" + "bba", ("ab", 5, "bba", 1)), ("backs", "ab", ("ab", 10 ** 39, "bba", 0)),
            ("backs", "ab", ("ab", 1, "bba", 10 ** 39)), ("backs", "ab", ("ab", 10 ** 39, "bba", 10 ** 38)),
            ("backs", "b", ("b", 1, "bb", 0)), ("weights", "ab", ("ab", 1, "bba", 0)),
        ]:
            self.flagged(False, is_refutal, PAIR, everything, thing)
        self.flagged(False, is_refutal, PAIR, only("ab", "abb"), ("backs", "ab", ("ab", 1, "bba", 0)))
        self.flagged(False, is_refutal, AB, only("ab", "bb"), ("weights", "b", UP))

    def test_of_any_book(self):
        everything = Machine("ab", ((0, 0),), (True,))
        nothing = Machine("ab", ((0, 0),), (False,))
        self.flagged(True, is_refutal, K, nothing, ("idle", "ab", ((0, 2),)))
        self.flagged(False, is_refutal, K, everything, ("idle", "ab", ((0, 2),)))
        self.flagged(False, is_refutal, K, everything, ("weights", "b", UP))
        self.flagged(False, is_refutal, K, everything, ("backs", "ab", ("ab", 1, "ba", 0)))
        self.flagged(False, is_refutal, K, everything, ("backs", "ba", ("ba", 1, "ab", 0)))

    def test_odd_and_deep_things(self):
        machines = [Machine("ab", ((0, 0),), (flag,)) for flag in (False, True)]
        for thing in odd_things() + deep_things() + not_logs():
            for machine in machines:
                for book in (AB, PAIR):
                    self.flagged(False, is_refutal, book, machine, thing)
                    self.flagged(False, is_refutal, book, machine, (thing, "", ()))
                    for kind, shown in [("idle", ()), ("weights", UP), ("backs", ("ab", 1, "bba", 0))]:
                        self.flagged(False, is_refutal, book, machine, (kind, thing, shown))
                    self.flagged(False, is_refutal, book, machine, ("weights", "b", thing))
                    self.flagged(False, is_refutal, book, machine, ("idle", "ab", thing))
                    self.flagged(False, is_refutal, book, machine, ("backs", "ab", thing))
                    self.flagged(False, is_refutal, book, machine, ("backs", "ab", (thing, 1, "bba", 0)))
                    self.flagged(False, is_refutal, book, machine, ("backs", "ab", ("ab", 1, thing, 0)))
                    if type(thing) is int:
                        continue
                    self.flagged(False, is_refutal, book, machine, ("backs", "ab", ("ab", thing, "bba", 0)))
                    self.flagged(False, is_refutal, book, machine, ("backs", "ab", ("ab", 1, "bba", thing)))

    def test_not_own(self):
        others = [counter("a", 2), counter("ac", 2), counter("abc", 300), counter("abcdefgh", 1)]
        for thing in odd_things() + deep_things() + ["ab", 0, ()] + others:
            self.refused(NotOwn, refutal, AB, thing)
            self.refused(Enough, refutal, K, thing)
            self.refused(NotOwn, is_refutal, AB, thing, ("idle", "", ()))
            self.refused(NotOwn, is_refutal, K, thing, None)
        self.refused(Enough, refutal, K, counter("ab", 2))


class TestPrograms(RefuterCase):

    def program(self, standing, step, lets):
        """Whether the program lets a text by."""
        def told(text):
            reached = standing
            for letter in text:
                reached = step(reached, letter)
            return lets(reached)
        return told

    def test_programs(self):
        def mixed(standing, letter):
            return (standing * 7 + ord(letter) * 3 + 1) % 97

        for book in endless_books()[:40]:
            for start, step, lets in [
                (0, mixed, lambda standing: standing % 3 == 0),
                (0, mixed, lambda standing: True),
                ("", lambda standing, letter: (standing + letter)[-3:], lambda standing: standing.count("a") != 1),
                ((None, ()), lambda standing, letter: (letter, standing[:1]), lambda standing: standing[0] is None),
                (frozenset(), lambda standing, letter: standing ^ {letter}, lambda standing: not standing),
            ]:
                found = refuted(book, start, step, lets, 300)
                self.is_refutal(book, self.program(start, step, lets), found)

    def test_just_so_many_standings(self):
        for book in (AB, PAIR, Book(("abcdefgh",))):
            for many in (1, 2, 7, 299, 300):
                machine = counter(letters(book), many)

                def step(standing, letter):
                    return machine.rows[standing][0]

                unlike = self.unlike(book, step)
                found = refuted(book, 0, step, lambda standing: machine.lets[standing], unlike)
                self.flagged(True, is_refutal, book, machine, found)
                if unlike > 1:
                    self.too_many(unlike - 1, refuted, book, 0, step, lambda standing: True, unlike - 1)

    def unlike(self, book, step):
        """How many unlike standings come behind none, one, two and so on of the family's first text."""
        standings = [0]
        while True:
            standing = standings[-1]
            for letter in family(book)[1]:
                standing = step(standing, letter)
            if standing in standings:
                return len(standings)
            standings.append(standing)

    def test_programs_that_come_back_late(self):
        for most in (1, 5, 300):
            found = refuted(PAIR, 0, lambda standing, letter: min(standing + 1, 2 * most - 2), lambda standing: True, most)
            self.is_refutal(PAIR, lambda text: True, found)
        found = refuted(AB, 0, lambda standing, letter: 0, lambda standing: False, 1)
        self.assertEqual(found, ("idle", "", ()))

    def test_programs_that_never_come_back(self):
        def pile(standing, letter):
            return (standing, letter)

        for book in endless_books()[:20]:
            for most in (1, 2, 300):
                self.too_many(most, refuted, book, 0, lambda standing, letter: standing + 1, lambda standing: True, most)
                self.too_many(most, refuted, book, "", lambda standing, letter: standing + letter, lambda standing: True, most)
                self.too_many(most, refuted, book, (), pile, lambda standing: True, most)

    def test_a_pile_that_tells_all_idle_logs(self):
        def step(standing, letter):
            return standing[:-1] if letter == "b" and standing[-1:] == "a" else standing + letter

        self.too_many(300, refuted, AB, "", step, lambda standing: standing == "", 300)

    def test_errors_of_the_program_go_on(self):
        for made in (KeyError, ValueError, IndexError, StopIteration, RecursionError, ZeroDivisionError, NotOwn, NoNumber):
            error = made()

            def failing(*_):
                raise error

            for step, lets in ((failing, lambda standing: True), (lambda standing, letter: 0, failing)):
                with self.assertRaises(made) as found:
                    refuted(AB, 0, step, lets, 3)
                self.assertIs(found.exception, error)
        error = TooMany(7)

        def sometimes(standing, letter):
            if letter == "b":
                raise error
            return 0

        with self.assertRaises(TooMany) as found:
            refuted(Book(("ba",)), 0, sometimes, lambda standing: True, 3)
        self.assertIs(found.exception, error)

    def test_the_order(self):
        def never(*_):
            raise AssertionError

        for most in not_numbers() + huge_integers() + [0, 301]:
            self.refused(NoNumber, refuted, AB, 0, never, never, most)
            self.refused(Enough, refuted, K, 0, never, never, most)
        self.refused(Enough, refuted, BB, 0, never, never, 300)


class TestFacts(Case):

    def test_strikes_take_letters_of_backs(self):
        text = "ab" * 5 + "bba"
        self.assertNotIn("", comes_to_all(PAIR, text))
        self.assertEqual(len(one_struck(PAIR, text)), len(strikes_in(PAIR, text)))
        for log in texts("ab", 8):
            if log in idle_logs(PAIR, 8) and log:
                self.assertTrue(has_piece(PAIR, log))
