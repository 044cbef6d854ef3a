"""Point 11.1: how many texts a machine lets by, and their numbers. Example e09."""

from struckpieces.books import Book, letters
from struckpieces.counts import count, idle_count, index_of, text_at
from struckpieces.errors import NoIndex, NoNumber, NotLet, NoText
from struckpieces.finding import least_machine
from struckpieces.free import is_enough
from struckpieces.machines import Machine, lets_by
from tests.cases import Case
from tests.plain import AB, ABBA, BB, HUGE, K, NESTS
from tests.plain import counter, does_let, idle_logs, only, random_book, random_machine, seeded, texts
from tests.things import deep_things, huge_integers, not_logs, not_numbers, odd_things

ALL = Machine("abcdefgh", ((0,) * 8,), (True,))
NONE = Machine("abcdefgh", ((0,) * 8,), (False,))


def machines():
    yield from (least_machine(BB), least_machine(K), counter("ab", 5, (1, 3)), only("abc", "cab"), counter("h", 7, (2,)))
    chance = seeded(141)
    for _ in range(120):
        signs = chance.choice(["a", "bh", "ab", "acg"])
        yield random_machine(chance, signs, chance.randint(1, 8), chance.choice([0.1, 0.5, 0.9]))


def let_by(machine, many):
    """The ascending list of all texts of so many signs that a machine lets by."""
    found = [text for text in texts(machine.signs, many) if len(text) == many and does_let(machine, text)]
    return sorted(found)


class TestExample(Case):

    def test_e09(self):
        self.assertEqual([count(least_machine(BB), many) for many in range(4)], [1, 1, 2, 4])


class TestCounts(Case):

    def test_listed_and_counted(self):
        for machine in machines():
            for many in range({1: 9, 2: 8, 3: 6}[len(machine.signs)]):
                found = let_by(machine, many)
                self.assertEqual(count(machine, many), len(found))
                self.assertIs(type(count(machine, many)), int)
                for index, text in enumerate(found):
                    self.assertEqual(text_at(machine, many, index), text)
                    self.assertEqual(index_of(machine, text), index)
                for index in (-1, len(found), len(found) + 1):
                    self.refused(NoIndex, text_at, machine, many, index)

    def test_many_signs(self):
        self.assertEqual(count(ALL, 0), 1)
        self.assertEqual(count(ALL, 2000), 8 ** 2000)
        self.assertEqual(count(NONE, 2000), 0)
        self.assertEqual(count(counter("ab", 60), 60), 2 ** 60)
        self.assertEqual(count(counter("ab", 60), 61), 0)
        self.assertEqual(count(counter("ab", 300, (200,)), 2000), 2 ** 2000)
        self.assertEqual(count(only("abc", "abcabc" * 40), 240), 1)
        # Texts without bb side by side.
        narrow = Machine("ab", ((0, 1), (0, 2), (2, 2)), (True, True, False))
        one, two = 1, 2
        for many in range(2001):
            if many in (0, 1, 2, 48, 49, 50, 51, 99, 100, 101, 149, 150, 1949, 1950, 1951, 1999, 2000):
                self.assertEqual(count(narrow, many), one)
                for index in (0, 1, one // 3, one // 2, one - 2, one - 1):
                    if 0 <= index < one:
                        text = text_at(narrow, many, index)
                        self.assertEqual(len(text), many)
                        self.assertTrue(lets_by(narrow, text))
                        self.assertEqual(index_of(narrow, text), index)
                self.refused(NoIndex, text_at, narrow, many, one)
            one, two = two, one + two

    def test_numbers_in_eights(self):
        for many, index in [(1, 7), (5, 0), (5, 8 ** 5 - 1), (40, 8 ** 40 // 7), (2000, 8 ** 2000 - 1), (2000, 8 ** 1999)]:
            text = text_at(ALL, many, index)
            self.assertEqual([text[at] for at in range(min(many, 40))],
                             ["abcdefgh"[index // 8 ** (many - 1 - at) % 8] for at in range(min(many, 40))])
            self.assertEqual(index_of(ALL, text), index)

    def test_ascending(self):
        chance = seeded(142)
        for _ in range(10):
            machine = random_machine(chance, "abc", 20)
            total = count(machine, 150)
            indexes = sorted(chance.randrange(total) for _ in range(12))
            found = [text_at(machine, 150, index) for index in indexes]
            self.assertEqual(found, sorted(found))
            self.assertEqual([index_of(machine, text) for text in found], indexes)
            self.assertTrue(all(does_let(machine, text) for text in found))

    def test_long_texts_have_numbers(self):
        self.assertEqual(index_of(counter("a", 2, (0, 1)), "a" * 20000), 0)
        self.assertEqual(index_of(counter("ab", 1), "b" * 20000), 2 ** 20000 - 1)
        self.assertEqual(index_of(counter("ab", 1), "a" * 19990 + "b" + "a" * 9), 2 ** 9)
        self.refused(NotLet, index_of, counter("ab", 3), "ab" * 10000)

    def test_machines_that_are_not_least(self):
        for machine in machines():
            many = len(machine.rows)
            twice = Machine(
                machine.signs,
                tuple(tuple(after + many for after in row) for row in machine.rows) + machine.rows,
                machine.lets * 2,
            )
            for long in range(5):
                self.assertEqual(count(twice, long), count(machine, long))
                for index, text in enumerate(let_by(machine, long)):
                    self.assertEqual(text_at(twice, long, index), text)
                    self.assertEqual(index_of(twice, text), index)


class TestIdleCount(Case):

    def test_against_pieces_put_in(self):
        chance = seeded(143)
        books = [BB, AB, K, NESTS, ABBA, HUGE, Book(("a" * 7, "a" * 8)), Book(("abcdefgh",)), Book(tuple("abcdefgh"))]
        books += [random_book(chance, chance.choice(["a", "ab", "abc", "abcd"]), 6, 4) for _ in range(60)]
        kinds = {True: 0, False: 0}
        for book in books:
            own = letters(book)
            most = {"a": 20, "ab": 9, "abc": 6, "abcd": 5, "abcdefgh": 3}[own]
            idle = idle_logs(book, most)
            for many in range(most + 1):
                told = idle_count(book, many)
                self.assertEqual(told, len([log for log in idle if len(log) == many]), (book.pieces, many))
                self.assertIs(type(told), int)
            kinds[is_enough(book)] += 1
        self.assertGreater(min(kinds.values()), 20)

    def test_enough_of_sixty_letters(self):
        for book in (BB, K, ABBA):
            self.assertEqual(idle_count(book, 60), count(least_machine(book), 60))
        self.assertEqual(idle_count(Book(tuple("abcdefgh")), 60), 8 ** 60)
        self.assertEqual(idle_count(Book(("a" * 7, "a" * 8)), 60), 1)
        self.assertEqual(idle_count(Book(("a" * 7, "a" * 8)), 41), 0)

    def test_twentythousand_texts(self):
        self.assertEqual(idle_count(AB, 14), 429)
        self.too_many(20000, idle_count, AB, 15)
        self.too_many(20000, idle_count, AB, 60)
        for pieces, most, many in [
            (("ab", "c"), 9, None), (("abc",), 9, 12), (("abcd",), 7, 0), (("abcde",), 6, 0), (("abcde", "f"), 5, 2),
            (("abcdefg",), 5, 0), (("abcdefgh",), 4, 0), (("ab", "cd", "ef", "gh"), 4, 32),
        ]:
            book = Book(pieces)
            if many is None:
                many = len([log for log in idle_logs(book, most) if len(log) == most])
            self.assertEqual(idle_count(book, most), many)
            self.too_many(20000, idle_count, book, most + 1)

    def test_books_with_too_large_machines(self):
        self.assertTrue(is_enough(HUGE))
        self.assertEqual(idle_count(HUGE, 9), len([log for log in idle_logs(HUGE, 9) if len(log) == 9]))
        self.too_many(20000, idle_count, HUGE, 10)
        self.too_many(20000, idle_count, HUGE, 60)


class TestWrong(Case):

    def test_no_number(self):
        for thing in not_numbers() + [2001, 10 ** 39]:
            for machine in (ALL, NONE, counter("ab", 300)):
                self.refused(NoNumber, count, machine, thing)
                self.refused(NoNumber, text_at, machine, thing, 0)
                self.refused(NoNumber, text_at, machine, thing, None)
        for thing in not_numbers() + [61, 10 ** 39]:
            for book in (AB, K, HUGE):
                self.refused(NoNumber, idle_count, book, thing)

    def test_no_index(self):
        for thing in odd_things() + deep_things() + huge_integers()[1:] + ["", "a", "0", (), (0,), -1]:
            self.refused(NoIndex, text_at, ALL, 3, thing)
            self.refused(NoIndex, text_at, NONE, 3, thing)
        self.refused(NoIndex, text_at, NONE, 3, 0)
        self.refused(NoIndex, text_at, ALL, 13, huge_integers()[0])
        self.assertEqual(len(text_at(ALL, 45, huge_integers()[0])), 45)
        self.refused(NoIndex, text_at, ALL, 2000, 8 ** 2000)
        self.refused(NoIndex, text_at, ALL, 0, 1)
        self.assertEqual(text_at(ALL, 0, 0), "")

    def test_no_text(self):
        for thing in not_logs() + ["b", "ab", "h", "aaab", "a" * 19999 + "b"]:
            self.refused(NoText, index_of, counter("a", 1), thing)
            self.refused(NoText, index_of, counter("a", 1, ()), thing)

    def test_not_let(self):
        self.refused(NotLet, index_of, NONE, "")
        self.refused(NotLet, index_of, NONE, "abc")
        self.refused(NotLet, index_of, counter("ab", 2), "aba")
        self.refused(NoText, index_of, counter("ab", 2), "abc")
