"""Histories: a beginning and a sequence of letters, oldest first."""

from asksmore.errors import BadBeginning, BadCount, BadLetter, BadPlace, BadRuns, TooLong, TooMany
from asksmore.letters import BEGINNINGS
from asksmore.plain import is_list_of, is_whole
from asksmore.runs import joined, parted, size_of, spliced

MOST_COUNT = 10 ** 30
MOST_RUNS = 400
MOST_SPELLED = 2000


def is_beginning(value):
    """Whether a value is one of the two beginnings."""
    return value in BEGINNINGS


def require_beginning(value):
    """Refuse what is not a beginning."""
    if not is_beginning(value):
        raise BadBeginning()


def require_count(index, value):
    """Refuse what is not the count of a run; the run's index is said by the error."""
    if not is_whole(value) or not 1 <= value <= MOST_COUNT:
        raise BadCount(index)


def require_runs(letters, runs):
    """Refuse a list that does not consist of runs of these letters."""
    for index, run in enumerate(runs):
        if not is_list_of(run, 2):
            raise BadRuns(index)
        if run[0] not in letters:
            raise BadLetter(index)
        require_count(index, run[1])


def extended(letters, kept, runs):
    """The kept runs with those of a list behind them."""
    require_runs(letters, runs)
    together = spliced(kept, joined(runs))
    if len(together) > MOST_RUNS:
        raise TooMany("runs", len(together), MOST_RUNS)
    return together


class CheckedRuns:
    """Joined runs of other histories: their counts may be above what a caller may pass."""

    def __init__(self, runs):
        self.runs = runs


class History:
    """A beginning and runs of letters."""

    def __init__(self, letters, beginning, runs=()):
        require_beginning(beginning)
        self.letters = letters
        self.beginning = beginning
        self.runs = runs.runs if isinstance(runs, CheckedRuns) else extended(letters, (), runs)
        self.size = size_of(self.runs)
        self.last = self.runs[-1][0] if self.runs else beginning

    @classmethod
    def spelled(cls, letters, beginning, word):
        """The history of a word."""
        return cls(letters, beginning, [(letter, 1) for letter in word])

    def word(self):
        """The letters as a tuple."""
        if self.size > MOST_SPELLED:
            raise TooLong(self.size)
        return tuple([letter for letter, count in self.runs for _ in range(count)])

    def cut(self, size):
        """The history of the first letters."""
        if not is_whole(size) or not 0 <= size <= self.size:
            raise BadPlace(size)
        return History(self.letters, self.beginning, CheckedRuns(parted(self.runs, size)[0]))

    def __getitem__(self, at):
        if not is_whole(at) or not 0 <= at < self.size:
            raise BadPlace(at)
        return parted(self.runs, at)[1][0][0]

    def __iter__(self):
        raise TypeError("a history is not iterated over")

    def __add__(self, other):
        runs = extended(self.letters, self.runs, other)
        return History(self.letters, self.beginning, CheckedRuns(runs))

    def __eq__(self, other):
        return (isinstance(other, History) and self.letters == other.letters
                and self.beginning == other.beginning and self.runs == other.runs)
