"""Struck forms: what is left of a history when its sentences are used as far as they go."""

from asksmore.histories import CheckedRuns, History
from asksmore.letters import require_same


class Striking:
    """A history from its start up to some run, struck, and the steps that strike it."""

    def __init__(self, closing, beginning):
        self.closing = closing
        self.beginning = beginning
        self.runs = []
        self.size = 0
        self.steps = []

    def take_run(self, letter, count):
        """Strike the next run of the history behind what is struck already."""
        row = self.closing.lone_rule(letter)
        if row is not None:
            self.steps.append((row, self.size, 1, count))
            letter = self.closing.least(letter)
        if letter is not None:
            count = self.folded(letter, count)
            while count > 0:
                count = self.pressed(letter, count)

    def folded(self, letter, count):
        """How many letters of a run of one live letter are left when it is struck alone."""
        row = self.closing.pair_rule(letter, letter)
        if row is None or count == 1:
            return count
        if self.closing.kind_of(row) == "kept":
            self.steps.append((row, self.size, 1, count - 1))
            return 1
        half = count // 2
        self.steps.append((row, self.size + half - 1, 1, half))
        return count - 2 * half

    def pressed(self, letter, count):
        """How many letters of a run are left to be taken when it has met the last struck run."""
        if not self.runs:
            return self.begun(letter, count)
        last, many = self.runs[-1]
        row = self.closing.pair_rule(last, letter)
        if row is None:
            return self.appended(letter, count)
        kind = self.closing.kind_of(row)
        if kind == "kept":
            self.steps.append((row, self.size - 1, 1, count))
            return 0
        times = many if kind == "over" else min(many, count)
        self.steps.append((row, self.size - 1, 1, times))
        self.drop(times)
        return count if kind == "over" else count - times

    def begun(self, letter, count):
        """Take a run as the first one, unless it does nothing to a new object."""
        row = self.closing.still_rule(letter)
        if row is None or self.beginning != "new":
            return self.appended(letter, count)
        self.steps.append((row, 0, 1, count))
        return 0

    def appended(self, letter, count):
        """Put a run behind what is struck."""
        self.size += count
        if self.runs and self.runs[-1][0] == letter:
            count += self.runs.pop()[1]
        self.runs.append((letter, count))
        return 0

    def drop(self, times):
        """Take so many letters off the last struck run."""
        letter, count = self.runs.pop()
        if count > times:
            self.runs.append((letter, count - times))
        self.size -= times


def strike(closing, history):
    """The striking of a whole history."""
    require_same(closing.letters, history.letters)
    work = Striking(closing, history.beginning)
    for letter, count in history.runs:
        work.take_run(letter, count)
    return work


def struck(closing, history):
    """The struck form of a history."""
    work = strike(closing, history)
    return History(history.letters, history.beginning, CheckedRuns(tuple(work.runs)))


def are_one(closing, one, other):
    """Whether two histories are one under the told sentences."""
    return struck(closing, one) == struck(closing, other)


def follows(closing, sentence):
    """Whether the two sides of a state sentence are one."""
    return are_one(closing, sentence.left, sentence.right)
