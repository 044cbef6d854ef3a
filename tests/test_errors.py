"""Points 0.3 and the interface's list of errors."""

import copy
import unittest

from struckpieces import errors
from tests.things import deep_things, odd_things

FIELDS = {
    "BadBook": "part", "NoLog": None, "NoStrike": None, "NoStriking": "at", "NoPlace": None, "NoPiece": None,
    "NoNumber": None, "TooMany": "most", "NoPrices": None, "NotEnough": None, "Enough": None, "NoWeights": None,
    "NoLetter": None, "NoFraction": None, "BadMachine": "part", "NoText": None, "NotAlike": None, "NotOwn": None,
    "NotClosed": None, "NoTexts": None, "NoIndex": None, "NotLet": None, "NoFlag": None, "NoEntry": None,
    "Gone": "number", "NoReader": None, "ReaderThere": None, "NothingDone": None, "NoValues": None,
    "BadText": "line",
}


class TestErrors(unittest.TestCase):

    def test_just_these_classes_are_there(self):
        found = [name for name, thing in vars(errors).items() if isinstance(thing, type)]
        self.assertEqual(sorted(found), sorted(list(FIELDS) + ["LogError"]))

    def test_they_derive_directly(self):
        self.assertEqual(errors.LogError.__bases__, (ValueError,))
        for name in FIELDS:
            self.assertEqual(getattr(errors, name).__bases__, (errors.LogError,), name)

    def test_they_keep_what_they_were_made_with(self):
        for name, field in FIELDS.items():
            if field is None:
                continue
            for thing in odd_things() + deep_things() + ["pieces", 0, -1, 10 ** 39]:
                error = getattr(errors, name)(thing)
                self.assertEqual(list(vars(error)), [field])
                self.assertIs(getattr(error, field), thing)

    def test_they_are_made_with_just_their_fields(self):
        self.assertEqual(vars(errors.LogError()), {})
        for name, field in FIELDS.items():
            made = getattr(errors, name)
            if field is None:
                self.assertEqual(vars(made()), {}, name)
                self.assertRaises(TypeError, made, 1)
            else:
                self.assertRaises(TypeError, made)
                self.assertRaises(TypeError, made, 1, 2)

    def test_they_can_be_raised_caught_and_copied(self):
        for name, field in FIELDS.items():
            made = getattr(errors, name)
            error = made() if field is None else made(3)
            for caught in (made, errors.LogError, ValueError):
                with self.assertRaises(caught) as found:
                    raise error
                self.assertIs(found.exception, error)
            again = copy.copy(error)
            self.assertIs(type(again), made)
            self.assertEqual(vars(again), vars(error))
