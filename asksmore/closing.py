"""Closed forms: which letters and pairs of letters some state sentences make one."""

from asksmore.completing import completed
from asksmore.errors import BadLetter, BadTold, NotLive, TooMany
from asksmore.sentences import Sentence

MOST_SENTENCES = 60


def close(letters, told):
    """The closing of a list of state sentences."""
    if len(told) > MOST_SENTENCES:
        raise TooMany("sentences", len(told), MOST_SENTENCES)
    for index, sentence in enumerate(told):
        if not isinstance(sentence, Sentence) or sentence.letters != letters:
            raise BadTold(index)
    return Closing(completed(letters, told), told)


class Closing:
    """Told state sentences and their closed form, with rows that show it."""

    def __init__(self, work, told):
        self.letters = work.letters
        self.told = tuple(told)
        self.rows = tuple(work.rows)
        self.lengths = tuple(work.lengths)
        self._rules = {key: work.rules[key][1] for key in work.rules}

    def rule(self, *word):
        """The row that strikes a letter that is not live, or a pair of live letters; or None."""
        return self._rules.get(("found", word))

    def still_rule(self, letter):
        """The row that strikes a live letter behind the beginning new; or None."""
        return self._rules.get(("new", (letter,)))

    def kind_of(self, row):
        """The kind of the sentence of a row."""
        return self.rows[row][0].kind

    def least(self, x):
        """The least letter of a letter; None if it is idle."""
        if x not in self.letters:
            raise BadLetter(0)
        row = self.rule(x)
        return x if row is None else self.rows[row][0].second

    def require_live(self, *word):
        """Refuse what is no letter, then what is not a live letter."""
        for index, letter in enumerate(word):
            if letter not in self.letters:
                raise BadLetter(index)
        for index, letter in enumerate(word):
            if self.rule(letter) is not None:
                raise NotLive(index)

    def pair(self, x, y):
        """What the second one of two live letters does to the first one; None if nothing is said."""
        self.require_live(x, y)
        row = self.rule(x, y)
        return None if row is None else self.kind_of(row)

    def is_still(self, y):
        """Whether a live letter does nothing to a new object."""
        self.require_live(y)
        return self.still_rule(y) is not None

    def form(self):
        """The sentences of the closed form, in their order."""
        lone = [self.rule(x) for x in self.letters]
        idle = [row for row in lone if row is not None and self.kind_of(row) == "idle"]
        alike = [row for row in lone if row is not None and self.kind_of(row) == "alike"]
        still = [self.still_rule(y) for y in self.letters]
        pairs = [self.rule(x, y) for x in self.letters for y in self.letters]
        return tuple([self.rows[row][0] for row in idle + alike + still + pairs if row is not None])
