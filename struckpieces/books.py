"""Books: which pieces may be struck."""

from struckpieces.errors import BadBook
from struckpieces.kinds import LETTERS, is_log

MOST_PIECES = 12
LONGEST_PIECE = 8


class Book:
    """The pieces that may be struck, a tuple of 1 to 12 unlike strings of 1 to 8 letters."""

    def __init__(self, pieces):
        if not isinstance(pieces, tuple) or not 1 <= len(pieces) <= MOST_PIECES:
            raise BadBook("pieces")
        for number, piece in enumerate(pieces):
            # All earlier ones are strings by now, so that `in` compares strings alone.
            if not _is_piece(piece) or piece in pieces[:number]:
                raise BadBook(number)
        self.pieces = pieces

    def __eq__(self, other):
        return isinstance(other, Book) and self.pieces == other.pieces


def _is_piece(thing):
    """Whether a thing is a string of 1 to 8 letters."""
    return is_log(thing) and 1 <= len(thing) <= LONGEST_PIECE


def letters(book):
    """The book's own letters, ascending."""
    standing = "".join(book.pieces)
    return "".join([letter for letter in LETTERS if letter in standing])
