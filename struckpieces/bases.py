"""Books with the same idle logs."""

from struckpieces.books import Book
from struckpieces.kinds import shortest_first
from struckpieces.tables import is_idle


def needless(book):
    """The tuple of the numbers of the pieces that are idle by the book's other pieces."""
    return tuple([number for number in range(len(book.pieces)) if _is_needless(book, number)])


def _is_needless(book, number):
    """Whether the piece with this number is idle by the other pieces."""
    others = book.pieces[:number] + book.pieces[number + 1:]
    # There is no book without pieces.
    return len(others) > 0 and is_idle(Book(others), book.pieces[number])


def base(book):
    """The Book of all pieces that are not needless, in their order."""
    left_out = needless(book)
    return Book(tuple([piece for number, piece in enumerate(book.pieces) if number not in left_out]))


def parting(book, other):
    """The first log, shortest first, that is idle by just one of two books, or None."""
    # By THE FACT OF BASES it is a piece of one.
    for piece in shortest_first(book.pieces + other.pieces):
        if is_idle(book, piece) != is_idle(other, piece):
            return piece
    return None


def is_held(book, other):
    """Whether all logs that are idle by the book are so by the other one; what is no Book holds none."""
    return isinstance(other, Book) and all([is_idle(other, piece) for piece in book.pieces])
