"""What tests of all modules ask."""

import unittest

from struckpieces.errors import LogError, TooMany


class Case(unittest.TestCase):

    def refused(self, made, call, *arguments):
        """The call raises just this error; returns it."""
        with self.assertRaises(LogError) as found:
            call(*arguments)
        self.assertIs(type(found.exception), made)
        return found.exception

    def too_many(self, most, call, *arguments):
        """The call raises TooMany with just this number."""
        error = self.refused(TooMany, call, *arguments)
        self.assertEqual(error.most, most)
        self.assertIs(type(error.most), int)

    def flagged(self, flag, call, *arguments):
        """The call returns just this flag."""
        self.assertIs(call(*arguments), flag, arguments[-1])
