"""What tests of all modules ask."""

import unittest
from unittest import mock

from struckpieces import judging
from struckpieces.errors import LogError, TooMany
from struckpieces.finding import least_machine
from struckpieces.free import is_enough
from tests.plain import random_book, seeded

FOUND = {}


def found_machine(book):
    """The least machine of a book, worked out but once."""
    if book.pieces not in FOUND:
        FOUND[book.pieces] = least_machine(book)
    return FOUND[book.pieces]


def enough_books(number, many=40):
    """Of so many books at random those that are enough and have a machine of at most 60 standings."""
    chance = seeded(number)
    for _ in range(many):
        book = random_book(chance, chance.choice(["a", "ab", "ab", "abc", "abcd"]), 6, 4, True)
        if is_enough(book):
            try:
                found_machine(book)
                yield book
            except TooMany:
                pass


class Case(unittest.TestCase):

    def refused(self, made, call, *arguments):
        """The call raises just this error; returns it."""
        with self.assertRaises(LogError) as found:
            call(*arguments)
        self.assertIs(type(found.exception), made)
        return found.exception

    def too_many(self, most, call, *arguments):
        """The call raises TooMany with just this number."""
        error = self.refused(TooMany, call, *arguments)
        self.assertEqual(error.most, most)
        self.assertIs(type(error.most), int)

    def flagged(self, flag, call, *arguments):
        """The call returns just this flag."""
        self.assertIs(call(*arguments), flag, arguments[-1])


class JudgedCase(Case):
    """Tests that ask much of few books: their machines, which have tests of their own, are worked out but once."""

    def setUp(self):
        patch = mock.patch.object(judging, "least_machine", found_machine)
        patch.start()
        self.addCleanup(patch.stop)
