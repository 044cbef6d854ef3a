"""Guessing the least machine that lets by what a reader lets by, and learning from texts on which a guess errs.

A reader has signs, and keeps MARKS of a text that it read, as it likes: first() ahead of all texts, step(marks, sign)
behind one more sign, told by its number. Of a text that is still to come it has a TEST: last() of the empty one,
back(test, sign) of one with a sign more in front. meet(marks, test) tells whether the two texts together are let by.
first_tests() is a list of tests to begin with, that of the empty text first. wrong_text(machine) is a text on which a
machine errs that is right about the empty text, or None if there is none.
"""

from struckpieces.errors import TooMany
from struckpieces.machines import Machine


class Guess:
    """A standing for the marks of each of some texts that tests tell apart."""

    def __init__(self, reader, most):
        self.asked = reader
        self.most = most
        self.tests = reader.first_tests()
        self.told = {}
        self.marks = []

    def answers(self, marks):
        """What the tests tell of marks."""
        told = self.told.get(marks, ())
        told += tuple([self.asked.meet(marks, test) for test in self.tests[len(told):]])
        self.told[marks] = told
        return told

    def guessed(self):
        """The machine that tells what the tests tell; TooMany(most) for more standings than most."""
        self.marks = [self.asked.first()]
        numbers = {self.answers(self.marks[0]): 0}
        rows = []
        while len(rows) < len(self.marks):
            row = []
            for sign in range(len(self.asked.signs)):
                marks = self.asked.step(self.marks[len(rows)], sign)
                answers = self.answers(marks)
                if answers not in numbers:
                    numbers[answers] = len(numbers)
                    self.marks.append(marks)
                row.append(numbers[answers])
            rows.append(tuple(row))
            # What tests tell apart stands apart in every right machine.
            if len(numbers) > self.most:
                raise TooMany(self.most)
        return Machine(self.asked.signs, tuple(rows), tuple([self.answers(marks)[0] for marks in self.marks]))

    def learn(self, machine, wrong):
        """Takes a test more, which tells two texts apart that the machine, the last guess, wrongly brings together."""
        signs = [machine.signs.index(sign) for sign in wrong]
        tests = [self.asked.last()]
        for sign in reversed(signs):
            tests.append(self.asked.back(tests[-1], sign))
        standing = 0
        right = self.asked.meet(self.marks[0], tests.pop())
        for sign in signs:
            standing = machine.rows[standing][sign]
            test = tests.pop()
            if self.asked.meet(self.marks[standing], test) != right:
                # Shorter tests come for nothing, and may spare another round.
                self.tests += [other for other in tests + [test] if other not in self.tests]
                return


def learned(reader, most):
    """The least Machine that lets by what a reader lets by; TooMany(most) for more standings."""
    guess = Guess(reader, most)
    while True:
        machine = guess.guessed()
        wrong = reader.wrong_text(machine)
        if wrong is None:
            return machine
        guess.learn(machine, wrong)
