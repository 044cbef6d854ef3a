"""Points 14.1 and 14.2: stores, journals and checkpoints."""

import copy

from struckpieces.books import Book, letters
from struckpieces.errors import BadText, Gone, LogError, NoEntry, NoFlag, NoLetter, NoReader, NoText, NotEnough
from struckpieces.errors import NothingDone, NoValues, ReaderThere
from struckpieces.free import is_enough
from struckpieces.harmless import cleaned, harmless_strikes
from struckpieces.store import Store, relived, restored
from struckpieces.tables import is_idle
from tests.cases import JudgedCase, enough_books, found_machine
from tests.plain import AB, ABBA, BB, HUGE, K, NESTS, does_let, seeded, texts
from tests.things import deep_things, huge_integers, not_logs, odd_things

SEVEN = Book(("a" * 7, "a" * 8))


def books():
    yield from (BB, K, ABBA, SEVEN, Book(("aab", "ab", "bb", "aa")), Book(tuple("abcdefgh")), Book(("aa", "aaa")))
    yield from enough_books(171)


class Plain:
    """A store that keeps all that it ever was, and asks anew for each strike."""

    def __init__(self, book):
        self.book = book
        self.entries = []
        self.many = 0
        self.keeping = False
        self.readers = {}
        self.opened = 0
        self.before = []
        self.lines = []

    def noted(self, line):
        self.lines.append(line)
        self.before.append((list(self.entries), self.many, self.keeping, self.opened))

    def open_strikes(self):
        log = "".join(entry[1] for entry in self.entries)
        for place, number in harmless_strikes(self.book, log):
            numbers = [entry[0] for entry in self.entries[place:place + len(self.book.pieces[number])]]
            if all(min(numbers) >= at or max(numbers) < at for at in self.readers.values()):
                yield place, number

    def struck(self):
        many = 0
        for place, number in self.open_strikes():
            self.entries = self.entries[:place] + self.entries[place + len(self.book.pieces[number]):]
            return 1 + self.struck()
        return many

    def write(self, letter, value):
        self.noted("write " + letter)
        self.entries.append((self.many, letter, value))
        self.many += 1
        if self.keeping:
            self.struck()
        return self.many - 1

    def clean(self):
        self.noted("clean")
        return self.struck()

    def keep(self, on):
        self.noted("keep on" if on else "keep off")
        self.keeping = on

    def reader(self):
        self.lines.append("open")
        self.readers[self.opened] = self.many
        self.opened += 1
        return self.opened - 1

    def close(self, reader):
        if reader not in self.readers:
            raise NoReader()
        del self.readers[reader]
        self.lines.append("close " + str(reader))

    def undo(self):
        if not self.before:
            raise NothingDone()
        if any(reader >= self.before[-1][3] for reader in self.readers):
            raise ReaderThere()
        self.entries, self.many, self.keeping, _ = self.before.pop()
        self.lines.append("undo")


def step(chance, book, plain):
    """A deed, at random: its name and arguments."""
    kinds = ["write"] * 10 + ["clean"] * 2 + ["keep"] + ["reader"] * 2 + ["close"] * 2 + ["undo"] * 3
    kind = chance.choice(kinds)
    if kind == "write":
        return kind, chance.choice(letters(book)), object()
    if kind == "keep":
        return kind, chance.random() < 0.6
    if kind == "close":
        return kind, chance.randint(0, plain.opened)
    return (kind,)


def done(store, deed):
    """What a deed returns, or the error that it raises."""
    try:
        return getattr(store, deed[0])(*deed[1:])
    except LogError as error:
        return type(error)


class StoreCase(JudgedCase):

    def same(self, store, plain):
        """All that a store tells is what the plain one knows."""
        book = plain.book
        self.assertEqual(store.kept(), plain.entries)
        self.assertEqual(store.log(), "".join(entry[1] for entry in plain.entries))
        self.assertEqual(store.written(), plain.many)
        self.assertEqual(store.journal(), "".join(line + "\n" for line in plain.lines))
        self.assertEqual(store.checkpoint(), self.checkpoint(plain))
        self.flagged(does_let(found_machine(book), store.log()), store.is_idle_now)
        for reader in range(plain.opened + 1):
            if reader in plain.readers:
                seen = [entry for entry in plain.entries if entry[0] < plain.readers[reader]]
                self.assertEqual(store.seen(reader), seen)
            else:
                self.refused(NoReader, store.seen, reader)
        there = {number: value for number, _, value in plain.entries}
        for number in range(plain.many):
            if number in there:
                self.assertIs(store.value(number), there[number])
            else:
                self.assertEqual(self.refused(Gone, store.value, number).number, number)
        self.refused(NoEntry, store.value, plain.many)

    def flagged(self, flag, call, *arguments):
        self.assertIs(call(*arguments), flag)

    def checkpoint(self, plain):
        lines = ["written %d" % plain.many] + ["entry %d %s" % entry[:2] for entry in plain.entries]
        return "".join(line + "\n" for line in lines + ["keep on" if plain.keeping else "keep off"])

    def filled(self, book, log):
        """A store with the log written."""
        store = Store(book)
        for letter in log:
            store.write(letter, letter.upper())
        return store


class TestAgainstAPlainStore(StoreCase):

    def test_deeds_at_random(self):
        chance = seeded(172)
        kinds = {}
        for book in books():
            for _ in range(6):
                store, plain = Store(book), Plain(book)
                for _ in range(chance.randint(5, 60)):
                    deed = step(chance, book, plain)
                    told = done(plain, deed)
                    self.assertEqual(done(store, deed), told, (book.pieces, plain.lines, deed))
                    kinds[deed[0], told if isinstance(told, type) else type(told)] = True
                    self.assertEqual(store.kept(), plain.entries, (book.pieces, plain.lines))
                self.same(store, plain)
        for kind in [("undo", NothingDone), ("undo", ReaderThere), ("undo", type(None)), ("close", NoReader)]:
            self.assertIn(kind, kinds)

    def test_each_step(self):
        chance = seeded(173)
        for book in (BB, K, ABBA, SEVEN):
            store, plain = Store(book), Plain(book)
            for _ in range(120):
                deed = step(chance, book, plain)
                self.assertEqual(done(store, deed), done(plain, deed))
                self.same(store, plain)

    def test_the_fact_of_stores(self):
        chance = seeded(174)
        for book in books():
            store, never = Store(book), Store(book)
            whole = []
            store.keep(True)
            never.keep(False)
            for _ in range(80):
                kind = chance.choice(["write"] * 6 + ["clean", "reader", "close", "undo"])
                if kind == "write":
                    whole.append(chance.choice(letters(book)))
                    for one in (store, never):
                        one.write(whole[-1], None)
                elif kind == "undo":
                    if store.journal().endswith("write %s\n" % (whole or " ")[-1]) and whole:
                        whole.pop()
                        store.undo()
                        never.undo()
                elif kind == "close":
                    done(store, ("close", chance.randint(0, 5)))
                else:
                    done(store, (kind,))
                self.assertEqual(store.is_idle_now(), never.is_idle_now())
                self.assertEqual(store.is_idle_now(), does_let(found_machine(book), "".join(whole)))
                if len(whole) <= 60:
                    self.assertEqual(store.is_idle_now(), is_idle(book, "".join(whole)))
                self.assertEqual(store.more(), never.more())
                self.assertEqual(store.written(), never.written())
            self.assertEqual(never.log(), "".join(whole))

    def test_more(self):
        for book in books():
            own = letters(book)
            ways = list(texts(own, {1: 10, 2: 6, 3: 4, 4: 3, 8: 1}[len(own)]))
            for log in ways[:60]:
                store = self.filled(book, log)
                first = [text for text in ways if is_idle(book, log + text)][:1]
                told = store.more()
                if first:
                    self.assertEqual((told, type(told)), (len(first[0]), int))
                else:
                    self.assertTrue(told is None or told > len(ways[-1]))
                self.assertEqual(told == 0, store.is_idle_now())


class TestByHand(StoreCase):

    def test_a_new_store(self):
        store = Store(BB)
        self.assertEqual((store.kept(), store.log(), store.written(), store.more()), ([], "", 0, 0))
        self.assertIs(store.is_idle_now(), True)
        self.assertEqual((store.journal(), store.checkpoint()), ("", "written 0\nkeep off\n"))
        self.assertEqual(store.clean(), 0)
        self.assertEqual(store.reader(), 0)
        self.assertEqual(store.seen(0), [])

    def test_what_methods_return(self):
        store = Store(BB)
        self.assertEqual(store.write("b", 1), 0)
        self.assertEqual(store.write("a", 2), 1)
        self.assertIsNone(store.keep(True))
        self.assertEqual(store.log(), "ba")
        self.assertEqual(store.write("b", 3), 2)
        self.assertEqual(store.kept(), [])
        self.assertIsNone(store.undo())
        self.assertEqual(store.kept(), [(0, "b", 1), (1, "a", 2)])
        self.assertIsNone(store.keep(False))
        self.assertEqual(store.clean(), 1)
        self.assertEqual(store.reader(), 0)
        self.assertIsNone(store.close(0))
        self.assertEqual(store.journal(), "write b\nwrite a\nkeep on\nwrite b\nundo\nkeep off\nclean\nopen\nclose 0\n")
        self.assertEqual(store.checkpoint(), "written 2\nentry 0 b\nkeep off\n")

    def test_clean_is_cleaned(self):
        chance = seeded(175)
        for book in books():
            log = "".join(chance.choice(letters(book)) for _ in range(40))
            store = self.filled(book, log)
            striking, rest = cleaned(book, log)
            self.assertEqual(store.clean(), len(striking))
            self.assertEqual(store.log(), rest)
            self.assertEqual(store.clean(), 0)

    def test_readers_part_strikes(self):
        store = self.filled(BB, "b")
        reader = store.reader()
        store.write("b", 1)
        self.assertEqual(store.clean(), 0)
        store.write("a", 2)
        self.assertEqual(store.clean(), 1)
        self.assertEqual(store.kept(), [(0, "b", "B"), (1, "b", 1)])
        self.assertEqual(store.seen(reader), [(0, "b", "B")])
        store.close(reader)
        self.assertEqual(store.log(), "bb")
        self.assertEqual(store.clean(), 1)
        self.assertEqual(store.log(), "")

    def test_readers_at_one_place_and_around(self):
        store = Store(SEVEN)
        store.keep(True)
        numbers = []
        for many in range(60):
            store.write("a", many)
            if many in (3, 10, 12):
                numbers.append(store.reader())
                numbers.append(store.reader())
        self.assertEqual(numbers, [0, 1, 2, 3, 4, 5])
        # Of those written between two readers seven together may go.
        self.assertEqual([len(store.seen(reader)) for reader in numbers], [4, 4, 4, 4, 6, 6])
        self.assertEqual([entry[0] for entry in store.seen(5)], [0, 1, 2, 3, 11, 12])
        for reader in (0, 3, 1, 2):
            store.close(reader)
        store.clean()
        self.assertEqual([entry[0] for entry in store.seen(4)], [0, 1, 2, 3, 11, 12])
        for reader in (0, 1, 2, 3, 6, 60):
            self.refused(NoReader, store.seen, reader)
        self.assertEqual(store.reader(), 6)

    def test_undo(self):
        store = Store(BB)
        self.refused(NothingDone, store.undo)
        store.keep(False)
        store.clean()
        store.write("b", "first")
        for _ in range(3):
            store.undo()
        self.refused(NothingDone, store.undo)
        self.assertEqual(store.write("a", "again"), 0)
        self.assertEqual(store.kept(), [(0, "a", "again")])
        self.assertEqual(store.journal(), "keep off\nclean\nwrite b\nundo\nundo\nundo\nwrite a\n")

    def test_undo_of_each_deed(self):
        store = self.filled(BB, "bab")
        store.keep(True)
        store.keep(True)
        store.write("a", 3)
        self.assertEqual(store.log(), "")
        store.write("b", 4)
        self.assertEqual((store.log(), store.written()), ("b", 5))
        store.undo()
        self.assertEqual((store.log(), store.written()), ("", 4))
        self.refused(NoEntry, store.value, 4)
        self.assertEqual(self.refused(Gone, store.value, 3).number, 3)
        store.undo()
        self.assertEqual((store.log(), store.written(), store.value(1)), ("bab", 3, "A"))
        store.undo()
        # Still on: the first of both is not taken back.
        store.write("a", 3)
        self.assertEqual(store.log(), "")
        store.undo()
        store.undo()
        store.write("a", 3)
        self.assertEqual(store.log(), "baba")
        self.assertEqual(store.clean(), 3)
        store.undo()
        self.assertEqual(store.kept(), [(0, "b", "B"), (1, "a", "A"), (2, "b", "B"), (3, "a", 3)])

    def test_undo_behind_a_reader(self):
        for deed in [("write", "a", None), ("clean",), ("keep", True), ("keep", False)]:
            store = self.filled(BB, "bab")
            ahead = store.reader()
            done(store, deed)
            behind = store.reader()
            for _ in range(2):
                self.refused(ReaderThere, store.undo)
            store.close(behind)
            self.assertIsNone(store.undo())
            self.assertEqual((store.log(), store.written()), ("bab", 3))
            self.refused(ReaderThere, store.undo)
            store.close(ahead)
            store.undo()
            self.assertEqual(store.log(), "ba")
            self.assertEqual(store.reader(), 2)

    def test_an_error_changes_nothing(self):
        store = self.filled(BB, "bab")
        store.reader()
        before = store.checkpoint(), store.journal(), store.kept(), store.seen(0)
        for call, error in [
            ((store.write, "c", 1), NoLetter), ((store.keep, 1), NoFlag), ((store.close, 1), NoReader),
            ((store.seen, 1), NoReader), ((store.value, 3), NoEntry), ((store.undo,), ReaderThere),
        ]:
            self.refused(error, *call)
            self.assertEqual((store.checkpoint(), store.journal(), store.kept(), store.seen(0)), before)

    def test_lists_are_new(self):
        store = self.filled(BB, "bab")
        reader = store.reader()
        for call in (store.kept, lambda: store.seen(reader)):
            call().append("more")
            call().clear()
            self.assertEqual(call(), [(0, "b", "B"), (1, "a", "A"), (2, "b", "B")])

    def test_values_of_any_kind(self):
        class Odd:
            def __eq__(self, other):
                raise AssertionError

        store = Store(K)
        values = odd_things() + deep_things() + [Odd(), 1.5, {1, 2}, store]
        for value in values:
            store.write("a", value)
        for number, value in enumerate(values):
            self.assertIs(store.value(number), value)
        store.clean()
        store.undo()
        for (_, _, kept), value in zip(store.kept(), values):
            self.assertIs(kept, value)

    def test_copies_go_on_apart(self):
        chance = seeded(176)
        for book in books():
            store, plain = Store(book), Plain(book)
            for _ in range(30):
                deed = step(chance, book, plain)
                done(store, deed)
                done(plain, deed)
            other = store.copy()
            self.assertIs(type(other), Store)
            plain_other = copy.copy(plain)
            for name in ("entries", "readers", "before", "lines"):
                setattr(plain_other, name, copy.copy(getattr(plain, name)))
            for one, its in [(store, plain), (other, plain_other), (other, plain_other), (store, plain)]:
                self.same(one, its)
                for _ in range(25):
                    deed = step(chance, book, its)
                    self.assertEqual(done(one, deed), done(its, deed))
                self.same(store, plain)
                self.same(other, plain_other)

    def test_stores_are_equal_to_nothing_else(self):
        store = Store(BB)
        for thing in odd_things() + deep_things() + [store.journal(), BB]:
            self.assertFalse(store == thing)
            self.assertTrue(store != thing)

    def test_many_entries(self):
        store = Store(ABBA)
        chance = seeded(177)
        log = "".join(chance.choice("ab") for _ in range(5000))
        for number, letter in enumerate(log):
            self.assertEqual(store.write(letter, number), number)
        striking, rest = cleaned(ABBA, log)
        self.assertEqual((store.clean(), store.log()), (len(striking), rest))
        self.assertEqual(store.is_idle_now(), does_let(found_machine(ABBA), log))
        store.undo()
        self.assertEqual(store.log(), log)
        store.keep(True)
        store.write("a", None)
        self.assertEqual(store.log(), cleaned(ABBA, log + "a")[1])


class TestJournals(StoreCase):

    def stores(self, many):
        chance = seeded(178)
        for book in list(books())[:many]:
            store, plain = Store(book), Plain(book)
            for _ in range(40):
                deed = step(chance, book, plain)
                if deed[0] == "write":
                    deed = deed[:2] + (plain.many,)
                done(store, deed)
                done(plain, deed)
            yield book, store, plain

    def test_relived(self):
        for book, store, plain in self.stores(20):
            text = store.journal()
            again, many = relived(book, text, {number: number for number in range(50)})
            self.assertEqual((type(again), many), (Store, len(text)))
            self.same(again, plain)
            # It goes on as the first one did: what is taken back is the same, too.
            while done(store, ("undo",)) is None:
                self.assertIsNone(again.undo())
                self.assertEqual(again.kept(), store.kept())
            self.assertEqual(done(again, ("undo",)), done(store, ("undo",)))
            self.assertEqual(again.checkpoint(), store.checkpoint())

    def test_cut_off_anywhere(self):
        for book, store, _ in self.stores(4):
            text = store.journal()
            for long in range(len(text)):
                again, many = relived(book, text[:long], {})
                self.assertEqual(many, text[:long].rfind("\n") + 1)
                self.assertEqual(again.journal(), text[:many])
                for _, _, value in again.kept():
                    self.assertIsNone(value)

    def relive(self, book, text, many):
        store, told = relived(book, text, {})
        self.assertEqual((told, store.journal()), (many, text[:many]), text)
        return store

    def test_lines_that_are_not_written_so(self):
        for line in [
            "", " ", "write", "write ", "write  a", "write a ", "write aa", "write c", "write A", " write a", "Write a", "writea",
            "write a b", "clean ", " clean", "clean 1", "cleaned", "keep", "keep ", "keep on ", "keep  on", "keep true", "keep On",
            "keep onoff", "keepon", "on", "open ", "open 0", "open 1", "close", "close ", "close 00", "close 1", "close  0",
            "close 0 ", "close -0", "close +0", "close a", "close 0.", "close 0_0", "close " + "0" * 5000, "close " + "9" * 5000,
            "close 01", "undo ", "undo 1", "undone", "entry 0 a", "written 0", "write a\\n", "close True", "~", "write ~",
        ]:
            self.relive(BB, "write b\nopen\n" + line + "\nwrite a\n", 13)

    def test_lines_that_can_not_be_done(self):
        self.relive(BB, "undo\n", 0)
        self.relive(BB, "write b\nundo\nundo\n", 13)
        self.relive(BB, "write b\nopen\nundo\nclose 0\n", 13)
        self.relive(BB, "open\nopen\nclose 1\nclose 1\nopen\n", 18)
        self.relive(BB, "open\nclose 0\nopen\nclose 0\n", 18)
        self.relive(BB, "write c\n", 0)
        self.relive(BB, "\nwrite a\n", 0)
        self.relive(BB, "open\n" * 11 + "close 10\nclose 9\nclose 10\n", 55 + 9 + 8)

    def test_values(self):
        value = object()
        store, many = relived(BB, "write b\nwrite b\nwrite b\nundo\nwrite a\n", {0: value, 2: [1], "1": 5, 3: 7, (1,): 4})
        self.assertEqual((store.kept(), many), ([(0, "b", value), (1, "b", None), (2, "a", [1])], 37))
        self.assertIs(store.value(0), value)
        values = {0: "x"}
        relived(BB, "write b\nwrite a\n", values)
        self.assertEqual(values, {0: "x"})

    def test_long_journals(self):
        store = Store(K)
        for number in range(3000):
            store.write("ab"[number % 2], number)
            if number % 7 == 0:
                store.clean()
        text = store.journal()
        self.assertGreater(len(text), 20000)
        again, many = relived(K, text, {number: number for number in range(3000)})
        self.assertEqual((again.kept(), many), (store.kept(), len(text)))


class TestCheckpoints(StoreCase):

    def test_restored(self):
        chance = seeded(179)
        for book in books():
            store, plain = Store(book), Plain(book)
            for _ in range(40):
                deed = step(chance, book, plain)
                done(store, deed)
                done(plain, deed)
            text = store.checkpoint()
            again = restored(book, text, {number: value for number, _, value in plain.entries})
            self.assertIs(type(again), Store)
            self.assertEqual((again.checkpoint(), again.kept(), again.journal()), (text, store.kept(), ""))
            self.refused(NothingDone, again.undo)
            self.refused(NoReader, again.close, 0)
            # Its readers closed, the other one goes on alike.
            for reader in list(plain.readers):
                store.close(reader)
            for _ in range(30):
                deed = chance.choice([("write", chance.choice(letters(book)), None), ("clean",), ("keep", True)])
                self.assertEqual(done(store, deed), done(again, deed))
                self.assertEqual(store.kept(), again.kept())
                self.assertEqual((store.more(), store.written()), (again.more(), again.written()))
            self.assertEqual(again.reader(), 0)

    def bad(self, line, text, book=BB):
        for values in ({}, {0: 1}):
            error = self.refused(BadText, restored, book, text, values)
            self.assertEqual((error.line, type(error.line)), (line, int), text)

    def test_by_hand(self):
        value = object()
        store = restored(BB, "written 9\nentry 0 b\nentry 4 a\nentry 8 b\nkeep on\n", {4: value, "0": 1})
        self.assertEqual(store.kept(), [(0, "b", None), (4, "a", value), (8, "b", None)])
        self.assertEqual((store.written(), store.log(), store.is_idle_now()), (9, "bab", True))
        self.assertEqual(self.refused(Gone, store.value, 1).number, 1)
        self.refused(NoEntry, store.value, 9)
        self.assertEqual(store.write("b", 1), 9)
        self.assertEqual(store.log(), "b")
        store.undo()
        self.assertEqual(store.log(), "bab")
        self.assertEqual(restored(BB, "written 0\nkeep off\n", {}).kept(), [])
        self.assertEqual(restored(BB, "written 1\nkeep off\n", {}).written(), 1)

    def test_the_first_line(self):
        for line in [
            "", " ", "written", "written ", "written  3", "written 3 ", "written -1", "written +3", "written 03", "written 00",
            "written a", "written 3 3", "Written 3", " written 3", "writtens 3", "wrote 3", "entry 0 a", "keep on", "keep off",
            "written 1_0", "written 3.0", "written " + "0" * 5000, "written three", "write a",
        ]:
            self.bad(1, line + "\nentry 0 b\nkeep on\n")
            self.bad(1, line + "\n")
            self.bad(1, line)
        self.bad(1, "")
        self.bad(1, "written 3")
        self.bad(1, "\n" * 5)

    def test_entries(self):
        for line in [
            "", " ", "entry", "entry ", "entry 2", "entry 2 ", "entry  2 a", "entry 2  a", "entry 2 a ", " entry 2 a", "Entry 2 a",
            "entry 2 c", "entry 2 h", "entry 2 A", "entry 2 ab", "entry 2 a a", "entry -2 a", "entry +2 a", "entry 02 a",
            "entry a 2", "entry a a", "entry 1 a", "entry 0 a", "entry 5 a", "entry 6 a", "entry " + "9" * 5000 + " a",
            "entry " + "0" * 5000 + "2 a", "written 5", "keep", "keep on ", "keep  on", "keep On", "keepon", "clean", "open",
            "entry 2a", "entry 2 \\n", "entry 2.0 a", "keep on off", "entries 2 a",
        ]:
            for behind in ("\nentry 3 b\nkeep on\n", "\nkeep off\n", "\n", "", "\nkeep on", "\nwritten x\n"):
                self.bad(3, "written 5\nentry 1 b\n" + line + behind)

    def test_what_is_lacking(self):
        self.bad(2, "written 3\n")
        self.bad(2, "written 3\nkeep on")
        self.bad(2, "written 3\nke")
        self.bad(2, "written 3\nentry 0 a")
        self.bad(3, "written 3\nentry 0 a\n")
        self.bad(3, "written 3\nentry 0 a\nkeep off")
        text = "written 12\nentry 0 a\nentry 5 b\nentry 11 a\nkeep off\n"
        restored(BB, text, {})
        for long in range(len(text)):
            self.bad(text[:long].count("\n") + 1, text[:long])

    def test_what_is_too_much(self):
        for more in ["\n", " ", "x", "keep on\n", "keep off\n", "keep on", "entry 2 a\n", "written 3\n", "\n\n\n", "x\ny\n"]:
            self.bad(3, "written 3\nkeep on\n" + more)
            self.bad(4, "written 3\nentry 0 a\nkeep off\n" + more)

    def test_each_line_wrong_in_each_way(self):
        lines = "written 12\nentry 0 a\nentry 5 b\nentry 11 a\nkeep off\n".split("\n")[:-1]
        for at in range(len(lines)):
            for wrong in ["", lines[at] + " ", " " + lines[at], lines[at][1:], lines[at].upper(), "written 1", "keep", "~"]:
                if wrong == "written 1" and at == 0:
                    continue
                text = "\n".join(lines[:at] + [wrong] + lines[at + 1:]) + "\n"
                self.bad(at + 1, text)
        self.bad(2, "written 0\nentry 0 a\nkeep off\n")
        self.bad(3, "written 12\nentry 5 b\nentry 5 b\nkeep off\n")
        self.bad(2, "written 12\nentry 5 c\nentry 5 b\nkeep off\n")
        self.bad(2, "written 12\nkeepoff\n")

    def test_large_numbers(self):
        for digits in (39, 40, 900, 4300, 4301, 9000):
            many = "1" + "0" * digits
            store = restored(BB, "written %s\nentry 7 b\nentry %s a\nkeep on\n" % (many, "9" * digits), {7: 1})
            self.assertEqual(store.written(), 10 ** digits)
            self.assertEqual(store.value(10 ** digits - 1), None)
            self.assertEqual(store.checkpoint(), "written %s\nentry 7 b\nentry %s a\nkeep on\n" % (many, "9" * digits))
            self.assertEqual(store.write("b", 1), 10 ** digits)
            self.assertEqual(store.checkpoint(), "written %s1\nkeep on\n" % many[:-1])
            self.bad(3, "written %s\nentry 7 b\nentry %s a\nkeep on\n" % (many, many))

    def test_long_checkpoints(self):
        store = self.filled(BB, "ab" * 3000)
        text = store.checkpoint()
        self.assertGreater(len(text), 20000)
        again = restored(BB, text, {})
        self.assertEqual((again.checkpoint(), again.log()), (text, store.log()))


class TestWrong(StoreCase):

    def test_no_letter(self):
        store = Store(BB)
        for thing in not_logs() + ["", "ab", "aa", "c", "h", "abb"]:
            self.refused(NoLetter, store.write, thing, 1)
        self.assertEqual((store.written(), store.journal()), (0, ""))

    def test_no_flag(self):
        store = Store(BB)
        for thing in odd_things() + deep_things() + huge_integers() + [0, 1, "", "on", "True", (), (True,)]:
            if not isinstance(thing, bool):
                self.refused(NoFlag, store.keep, thing)
        self.assertEqual((store.checkpoint(), store.journal()), ("written 0\nkeep off\n", ""))

    def test_no_entry_and_gone(self):
        store = self.filled(BB, "aab")
        store.clean()
        for thing in odd_things() + deep_things() + huge_integers() + [-1, -3, 3, 4, "", "0", (), (0,)]:
            self.refused(NoEntry, store.value, thing)
        for number in (0, 1):
            error = self.refused(Gone, store.value, number)
            self.assertEqual((error.number, type(error.number)), (number, int))
        self.assertEqual(store.value(2), "B")

    def test_no_reader(self):
        store = self.filled(BB, "aab")
        for many in range(3):
            for thing in odd_things() + deep_things() + huge_integers() + [-1, many, "", "0", (), (0,)]:
                self.refused(NoReader, store.seen, thing)
                self.refused(NoReader, store.close, thing)
            store.reader()
        store.close(1)
        self.refused(NoReader, store.close, 1)
        self.refused(NoReader, store.seen, 1)
        self.refused(NoReader, store.close, True)
        self.refused(NoReader, store.seen, False)
        self.assertEqual(len(store.seen(0)), 3)

    def test_no_text_and_no_values(self):
        no_texts = [thing for thing in not_logs() if not isinstance(thing, str)]
        no_dicts = [thing for thing in not_logs() if not isinstance(thing, dict)]
        for call in (relived, restored):
            for thing in no_texts:
                self.refused(NoText, call, BB, thing, {})
                self.refused(NoText, call, BB, thing, None)
            for thing in no_dicts:
                self.refused(NoValues, call, BB, "written 0\nkeep on\n", thing)
                self.refused(NoValues, call, BB, "nothing", thing)
        self.assertEqual(relived(BB, "", {})[1], 0)
        for thing in odd_things() + deep_things():
            if isinstance(thing, dict):
                self.assertEqual(relived(BB, "write b\n", thing)[1], 8)

    def test_books_come_first(self):
        for book in (AB, NESTS, Book(("abcdefgh",))):
            if not is_enough(book):
                self.refused(NotEnough, Store, book)
                for text in ("", None, "open\n"):
                    self.refused(NotEnough, relived, book, text, None)
                    self.refused(NotEnough, restored, book, text, None)
        self.too_many(60, Store, HUGE)
        for text in ("", None, "open\n"):
            self.too_many(60, relived, HUGE, text, None)
            self.too_many(60, restored, HUGE, text, None)
