"""Points 5.1 and 5.2: machines."""

from struckpieces.books import Book
from struckpieces.errors import BadMachine, NotAlike, NoText
from struckpieces.machines import Machine, apart, both, either, is_below, least, lets_by, reached, turned
from tests.cases import Case
from tests.plain import counter, does_let, is_least, only, random_machine, seeded, texts
from tests.things import deep_things, huge_integers, not_logs, not_tuples, odd_things

EVEN = Machine("ab", ((0, 1), (1, 0)), (True, False))
WHOLE = "abcdefgh"


def machines():
    """Machines of one, two and three signs, and how long texts tell all of them."""
    chance = seeded(61)
    for _ in range(250):
        signs = chance.choice(["c", "ab", "bcd"])
        one = random_machine(chance, signs, chance.randint(1, 6), chance.choice([0.1, 0.5, 0.9]))
        other = random_machine(chance, signs, chance.randint(1, 4), chance.choice([0.1, 0.5, 0.9]))
        yield one, other, list(texts(signs, {1: 24, 2: 7, 3: 5}[len(signs)]))


class TestMachine(Case):

    def bad(self, part, signs, rows, lets):
        error = self.refused(BadMachine, Machine, signs, rows, lets)
        self.assertEqual((error.part, type(error.part)), (part, type(part)))

    def test_attributes(self):
        for signs, rows, lets in [
            ("a", ((0,),), (True,)), ("h", ((1,), (0,)), (False, True)), ("ab", ((0, 1), (1, 0)), (True, False)),
            (WHOLE, ((0,) * 8,), (False,)), ("ch", ((299, 0),) * 300, (True,) * 300),
        ]:
            machine = Machine(signs, rows, lets)
            self.assertEqual((machine.signs, machine.rows, machine.lets), (signs, rows, lets))

    def test_signs(self):
        for thing in not_logs() + ["", "ba", "aa", "abb", "abca", "aba", WHOLE + "h", "a" * 20000, "abi"]:
            self.bad("signs", thing, ((0,),), (True,))
            self.bad("signs", thing, None, None)

    def test_rows(self):
        for thing in not_tuples() + [(), ((0,),) * 301, ((0,),) * 20000, [(0,)]]:
            self.bad("rows", "a", thing, (True,))
            self.bad("rows", "a", thing, None)
        self.bad("rows", "a", (None,) * 301, None)

    def test_the_first_row_that_is_wrong(self):
        wrong = not_tuples() + [(), (0,), (0, 0, 0), [0, 0], (0, 3), (3, 0), (-1, 0), (0, True), (False, 0), (0, None)]
        wrong += [(thing, 0) for thing in odd_things() + deep_things() + huge_integers() + ["0"]]
        for row in wrong:
            self.bad(0, "ab", (row, (0, 0), (0, 0)), (True,) * 3)
            self.bad(2, "ab", ((0, 0), (2, 1), row), None)
            self.bad(1, "ab", ((0, 0), row, row), (True,))
        self.bad(299, "a", ((0,),) * 299 + ((300,),), (True,) * 300)
        self.bad(0, "a", ((1,),), (True,))

    def test_lets(self):
        for thing in not_tuples() + [(), (True,), (True,) * 3, [True, True], (True, 1), (0, True), (None, True)]:
            self.bad("lets", "ab", ((0, 1), (1, 0)), thing)
        for thing in deep_things() + odd_things() + [0, 1, "True"]:
            if not isinstance(thing, bool):
                self.bad("lets", "ab", ((0, 1), (1, 0)), (True, thing))

    def test_equality(self):
        self.assertTrue(EVEN == Machine("ab", ((0, 1), (1, 0)), (True, False)))
        self.assertFalse(EVEN != Machine("ab", ((0, 1), (1, 0)), (True, False)))
        for other in [
            Machine("ac", ((0, 1), (1, 0)), (True, False)), Machine("ab", ((0, 1), (1, 1)), (True, False)),
            Machine("ab", ((0, 1), (1, 0)), (True, True)), Book(("a", "bb")), ("ab", ((0, 1), (1, 0)), (True, False)),
        ] + odd_things() + deep_things():
            self.assertFalse(EVEN == other)
            self.assertTrue(EVEN != other)
            self.assertFalse(other == EVEN)

    def test_equal_to_no_look_alike(self):
        class Alike:
            signs, rows, lets = "ab", ((0, 1), (1, 0)), (True, False)

        self.assertFalse(EVEN == Alike())


class TestReading(Case):

    def test_reading(self):
        for machine, _, every in machines():
            for text in every[:60]:
                standing = reached(machine, text)
                self.assertIs(type(standing), int)
                self.assertIs(machine.lets[standing], does_let(machine, text))
                self.flagged(does_let(machine, text), lets_by, machine, text)
        self.assertEqual([reached(counter("ab", 5), "ab" * many) for many in range(4)], [0, 2, 4, 1])

    def test_edges(self):
        self.assertEqual(reached(EVEN, ""), 0)
        self.assertEqual(reached(counter("a", 300), "a" * 20000), 200)
        self.flagged(True, lets_by, only(WHOLE, WHOLE), WHOLE)

    def test_no_text(self):
        for thing in not_logs() + ["c", "abc", "h", "a" * 100 + "c"]:
            self.refused(NoText, reached, EVEN, thing)
            self.flagged(False, lets_by, EVEN, thing)
            self.flagged(False, lets_by, Machine("ab", ((0, 0),), (True,)), thing)


class TestLeast(Case):

    def holds(self, machine, every, told):
        self.assertIs(type(machine), Machine)
        self.assertTrue(is_least(machine), machine.rows)
        for text in every:
            self.assertIs(does_let(machine, text), told(text))

    def test_against_all_texts(self):
        for one, other, every in machines():
            self.holds(least(one), every, lambda text: does_let(one, text))
            self.holds(turned(one), every, lambda text: not does_let(one, text))
            self.holds(either(one, other), every, lambda text: does_let(one, text) or does_let(other, text))
            self.holds(both(one, other), every, lambda text: does_let(one, text) and does_let(other, text))

    def test_apart_and_below(self):
        for one, other, every in machines():
            # Six times four standings are told apart by texts of less letters than that; most by far fewer.
            first = [text for text in every if does_let(one, text) != does_let(other, text)]
            found = apart(one, other)
            if first:
                self.assertEqual(found, first[0])
            elif found is not None:
                self.assertGreater(len(found), len(every[-1]))
                self.assertNotEqual(does_let(one, found), does_let(other, found))
            over = [text for text in every if does_let(one, text) and not does_let(other, text)]
            if over:
                self.flagged(False, is_below, one, other)
            else:
                self.flagged(both(one, turned(other)).lets == (False,), is_below, one, other)
            for machine, wider in ((both(one, other), one), (one, either(one, other)), (one, least(one))):
                self.flagged(True, is_below, machine, wider)
            self.assertIsNone(apart(one, least(one)))
            self.assertEqual(apart(one, turned(one)), "")

    def test_numbering(self):
        machine = Machine("ab", ((3, 2), (1, 1), (2, 2), (0, 2)), (False, True, True, False))
        self.assertEqual(least(machine), Machine("ab", ((0, 1), (1, 1)), (False, True)))
        machine = Machine("ab", ((2, 1), (0, 0), (2, 1)), (False, True, False))
        self.assertEqual(least(machine), Machine("ab", ((0, 1), (0, 0)), (False, True)))
        self.assertEqual(least(counter("a", 6, (0, 3))), counter("a", 3))
        self.assertEqual(least(Machine("a", ((2,), (0,), (1,)), (True, False, False))), counter("a", 3))

    def test_one_standing(self):
        for flag in (True, False):
            machine = Machine("ab", ((0, 0),), (flag,))
            self.assertEqual(least(machine), machine)
            self.assertEqual(turned(machine), Machine("ab", ((0, 0),), (not flag,)))
            self.assertEqual(least(Machine("ab", ((1, 2), (2, 0), (0, 1)), (flag,) * 3)), machine)

    def test_three_hundred(self):
        machine = counter("a", 300)
        self.assertEqual(least(machine), machine)
        self.assertEqual(len(turned(machine).rows), 300)
        self.assertEqual(both(machine, counter("a", 150)), machine)
        self.assertEqual(either(counter("a", 15), counter("a", 20)), least(counter("a", 60, (0, 15, 20, 30, 40, 45))))
        self.assertEqual(both(counter("a", 12), counter("a", 25)), machine)
        self.assertEqual(len(either(counter("ab", 12), counter("ab", 25)).rows), 300)
        for one, other in [(7, 43), (300, 299), (17, 19), (299, 300)]:
            self.too_many(300, both, counter("ab", one), counter("ab", other))
            self.too_many(300, either, counter("ab", one), counter("ab", other))
        self.assertEqual(apart(counter("ab", 300), counter("ab", 299)), "a" * 299)
        self.assertEqual(apart(counter("a", 300), counter("a", 150)), "a" * 150)
        self.flagged(True, is_below, counter("a", 300), counter("a", 150))
        self.flagged(False, is_below, counter("a", 150), counter("a", 300))

    def test_many_pairs_and_few_standings(self):
        # The two go through 89700 pairs of standings, of which just one machine tells more than nothing.
        one = counter(WHOLE, 300)
        none = counter(WHOLE, 299, ())
        self.assertEqual(both(one, none), Machine(WHOLE, ((0,) * 8,), (False,)))
        self.assertEqual(either(one, none), one)

    def test_what_is_first(self):
        self.assertEqual(apart(only("ab", "ba"), only("ab", "ab")), "ab")
        self.assertEqual(apart(only("ab", "b"), only("ab", "aa")), "b")
        self.assertEqual(apart(only("ab", "bab"), only("ab", "babb")), "bab")


class TestNotAlike(Case):

    def test_not_alike(self):
        machine = Machine("ab", ((0, 0),), (True,))
        others = [Machine("ac", ((0, 0),), (True,)), Machine("a", ((0,),), (True,)), counter("abc", 300)]
        for thing in odd_things() + deep_things() + ["ab", 0, (), ("ab", ((0, 0),), (True,))] + others:
            for call in (either, both, apart, is_below):
                self.refused(NotAlike, call, machine, thing)
                self.refused(NotAlike, call, thing, machine)
                if not isinstance(thing, Machine):
                    self.refused(NotAlike, call, thing, thing)
        self.refused(NotAlike, both, counter("ab", 300), counter("a", 299))
