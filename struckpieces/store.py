"""Stores: logs that are cleaned while they are written."""

from struckpieces.books import letters
from struckpieces.decimals import number_text, number_told
from struckpieces.errors import BadText, Gone, NoEntry, NoFlag, NoLetter, NoReader, NoText, NothingDone, NoValues
from struckpieces.errors import ReaderThere
from struckpieces.judging import Judge
from struckpieces.kinds import is_index, is_integer, is_text
from struckpieces.sweeping import Sweep


class Store:
    """Entries with values, of which those that tell nothing of what may come can be let go of."""

    def __init__(self, book):
        self.judge = Judge(book)
        self.book = book
        self.entries = []
        self.many = 0
        self.standing = 0
        self.keeping = False
        # For each open reader how many entries were written when it opened.
        self.readers = {}
        self.opened = 0
        # For each write, clean and keep that is not taken back what undo needs to know.
        self.deeds = []
        self.lines = []

    def write(self, letter, value):
        """Writes an entry more; returns its number."""
        own = letters(self.book)
        if not is_text(own, letter) or len(letter) != 1:
            raise NoLetter()
        number = self.many
        before = self.standing
        self.entries.append((number, letter, value))
        self.many += 1
        self.standing = self.judge.run(self.standing, letter)
        struck = self.swept() if self.keeping else []
        self.note("write " + letter, (True, before, self.keeping, struck, self.opened))
        return number

    def clean(self):
        """Strikes the least harmless strike that readers let, until there is none; returns how many it struck."""
        struck = self.swept()
        self.note("clean", (False, self.standing, self.keeping, struck, self.opened))
        return len(struck)

    def keep(self, on):
        """Whether the store cleans itself behind each write from now on."""
        if not isinstance(on, bool):
            raise NoFlag()
        self.note("keep on" if on else "keep off", (False, self.standing, self.keeping, [], self.opened))
        self.keeping = on

    def swept(self):
        """Lets entries go; returns the list of the strikes, with their entries."""
        sweep = Sweep(self.judge, self.book.pieces, self.entries, list(self.readers.values()))
        struck = sweep.swept()
        self.entries = sweep.rest()
        return struck

    def note(self, line, deed):
        """Notes a deed that can be taken back: whether it was a write, how all was before, its strikes, the readers."""
        self.lines.append(line)
        self.deeds.append(deed)

    def kept(self):
        """The list of the entries kept."""
        return list(self.entries)

    def log(self):
        """The letters of the entries kept."""
        return "".join([letter for _, letter, _ in self.entries])

    def written(self):
        """How many entries were written."""
        return self.many

    def value(self, number):
        """The value of the entry with this number."""
        if not is_index(self.many, number):
            raise NoEntry()
        at = self.ahead_of(number)
        if at == len(self.entries) or self.entries[at][0] != number:
            raise Gone(number)
        return self.entries[at][2]

    def ahead_of(self, number):
        """How many of the entries kept have a lesser number."""
        least = 0
        most = len(self.entries)
        while least < most:
            middle = (least + most) // 2
            if self.entries[middle][0] < number:
                least = middle + 1
            else:
                most = middle
        return least

    def is_idle_now(self):
        """Whether all that was written would be idle."""
        return self.judge.lets[self.standing]

    def more(self):
        """How many letters at least make what was written idle, None if none do."""
        return self.judge.fewest(self.standing)

    def reader(self):
        """Opens a reader at what is written now; returns its number."""
        number = self.opened
        self.readers[number] = self.many
        self.opened += 1
        self.lines.append("open")
        return number

    def need_reader(self, reader):
        """Raises NoReader for what is no open reader."""
        if not is_integer(reader) or reader not in self.readers:
            raise NoReader()

    def seen(self, reader):
        """The list of the entries written ahead of a reader's opening that are kept."""
        self.need_reader(reader)
        return self.entries[:self.ahead_of(self.readers[reader])]

    def close(self, reader):
        """Closes a reader."""
        self.need_reader(reader)
        del self.readers[reader]
        self.lines.append("close " + number_text(reader))

    def undo(self):
        """Takes back the last write, clean or keep that is not taken back."""
        if not self.deeds:
            raise NothingDone()
        was_write, standing, keeping, struck, opened = self.deeds[-1]
        if any([reader >= opened for reader in self.readers]):
            raise ReaderThere()
        self.deeds.pop()
        for place, _, taken in reversed(struck):
            self.entries[place:place] = taken
        if was_write:
            self.entries.pop()
            self.many -= 1
        self.standing = standing
        self.keeping = keeping
        self.lines.append("undo")

    def copy(self):
        """A store that goes on apart, with the readers."""
        other = Store(self.book)
        other.entries = list(self.entries)
        other.many = self.many
        other.standing = self.standing
        other.keeping = self.keeping
        other.readers = dict(self.readers)
        other.opened = self.opened
        other.deeds = list(self.deeds)
        other.lines = list(self.lines)
        return other

    def journal(self):
        """A line for each deed."""
        return closed(self.lines)

    def checkpoint(self):
        """A text from which the store can be restored, but for values and readers."""
        lines = ["entry " + number_text(number) + " " + letter for number, letter, _ in self.entries]
        return closed(["written " + number_text(self.many)] + lines + ["keep on" if self.keeping else "keep off"])


def closed(lines):
    """A text of lines, each closed by a line feed."""
    return "".join([line + "\n" for line in lines])


def _need_text(text, values):
    """Raises the error that is due for what is no text, or no dict."""
    if not isinstance(text, str):
        raise NoText()
    if not isinstance(values, dict):
        raise NoValues()


def relived(book, text, values):
    """The pair of a new store on which a journal's lines were done, as far as can be, and how many signs these have."""
    store = Store(book)
    _need_text(text, values)
    done = 0
    # What is behind the last line feed is no whole line.
    for line in text.split("\n")[:-1]:
        if not _is_done(store, line, values):
            break
        done += len(line) + 1
    return store, done


def _is_done(store, line, values):
    """Does what a line of a journal tells; returns whether it is written so and can be done."""
    word, _, rest = line.partition(" ")
    if line == "clean":
        store.clean()
    elif line == "open":
        store.reader()
    elif line in ("keep on", "keep off"):
        store.keep(rest == "on")
    elif word in ("write", "close", "undo"):
        return _is_tried(store, line, word, rest, values)
    else:
        return False
    return True


def _is_tried(store, line, word, rest, values):
    """Does what a line tells that a store may refuse; returns whether it is written so and was done."""
    try:
        if word == "write":
            store.write(rest, values.get(store.written(), None))
        elif word == "close":
            store.close(number_told(rest))
        elif line == "undo":
            store.undo()
        else:
            return False
    except (NoLetter, NoReader, NothingDone, ReaderThere):
        return False
    return True


def restored(book, text, values):
    """The store of a checkpoint, with no readers and nothing to undo."""
    store = Store(book)
    _need_text(text, values)
    lines = text.split("\n")
    # What is behind the last line feed is no whole line.
    whole = lines[:-1]
    store.many = _many_written(whole)
    own = letters(book)
    least = 0
    at = 1
    while at < len(whole) and whole[at] not in ("keep on", "keep off"):
        number, letter = _entry_told(own, whole[at])
        if not letter or not least <= number < store.many:
            raise BadText(at + 1)
        store.entries.append((number, letter, values.get(number, None)))
        least = number + 1
        at += 1
    if at == len(whole):
        raise BadText(at + 1)
    if at + 1 < len(whole) or lines[-1]:
        raise BadText(at + 2)
    store.keeping = whole[at] == "keep on"
    store.standing = store.judge.run(0, store.log())
    return store


def _many_written(lines):
    """The number that the first line of a checkpoint tells."""
    if not lines or not lines[0].startswith("written "):
        raise BadText(1)
    number = number_told(lines[0].partition(" ")[2])
    if number is None:
        raise BadText(1)
    return number


def _entry_told(own, line):
    """The pair of the number and the own letter that a line tells of an entry; no letter for another line."""
    parts = line.split(" ")
    if len(parts) != 3 or parts[0] != "entry" or len(parts[2]) != 1 or not is_text(own, parts[2]):
        return -1, ""
    number = number_told(parts[1])
    if number is None:
        return -1, ""
    return number, parts[2]
