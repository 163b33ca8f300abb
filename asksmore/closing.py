"""Closed forms: which letters and pairs of letters some state sentences make one."""

from asksmore.completing import Completion, completed
from asksmore.errors import BadLetter, BadTold, NotLive, TooMany
from asksmore.sentences import Sentence

MOST_SENTENCES = 60


def close(letters, told):
    """The closing of a list of state sentences."""
    require_few(len(told))
    for index, sentence in enumerate(told):
        if not isinstance(sentence, Sentence) or sentence.letters != letters:
            raise BadTold(index)
    return Closing(told_behind(Completion(letters), told))


def require_few(many):
    """Refuse more sentences than a closing or a specification may have."""
    if many > MOST_SENTENCES:
        raise TooMany("sentences", many, MOST_SENTENCES)


def told_behind(begun, told):
    """A completion that takes in these sentences behind those that another one has taken in."""
    work = begun.copy()
    for sentence in told:
        work.take(sentence)
    return work


class Closing:
    """Told state sentences and their closed form, with rows that show it."""

    def __init__(self, begun):
        work = completed(begun)
        self.letters = work.letters
        self.told = tuple([sentence for sentence, steps in begun.rows])
        self.rows = tuple(work.rows)
        self.lengths = tuple(work.lengths)
        self.live = tuple([letter for letter in work.letters.words if work.lone[work.ranks[letter]] is None])
        # Nothing is changed in what was begun, so that a further sentence may be told behind it.
        self._begun = begun
        self._work = work

    def followed(self, sentence):
        """The closing of the told sentences and of one more over equal letters behind them."""
        require_few(len(self.told) + 1)
        return Closing(told_behind(self._begun, [sentence]))

    def lone_rule(self, letter):
        """The row that strikes a letter that is not live; or None."""
        rule = self._work.lone[self._work.ranks[letter]]
        return None if rule is None else rule[1]

    def pair_rule(self, x, y):
        """The row that strikes a pair of live letters; or None."""
        ranks = self._work.ranks
        rule = self._work.pairs[ranks[x] * self._work.many + ranks[y]]
        return None if rule is None else rule[1]

    def still_rule(self, letter):
        """The row that strikes a live letter behind the beginning new; or None."""
        rule = self._work.still[self._work.ranks[letter]]
        return None if rule is None else rule[1]

    def kind_of(self, row):
        """The kind of the sentence of a row."""
        return self.rows[row][0].kind

    def least(self, x):
        """The least letter of a letter; None if it is idle."""
        if x not in self.letters:
            raise BadLetter(0)
        row = self.lone_rule(x)
        return x if row is None else self.rows[row][0].second

    def require_live(self, *word):
        """Refuse what is no letter, then what is not a live letter."""
        for index, letter in enumerate(word):
            if letter not in self.letters:
                raise BadLetter(index)
        for index, letter in enumerate(word):
            if letter not in self.live:
                raise NotLive(index)

    def pair(self, x, y):
        """What the second one of two live letters does to the first one; None if nothing is said."""
        self.require_live(x, y)
        row = self.pair_rule(x, y)
        return None if row is None else self.kind_of(row)

    def is_still(self, y):
        """Whether a live letter does nothing to a new object."""
        self.require_live(y)
        return self.still_rule(y) is not None

    def form(self):
        """The sentences of the closed form, in their order."""
        work = self._work
        lone = [rule for rule in work.lone if rule is not None]
        rules = [[rule for rule in lone if rule[0] == ()], [rule for rule in lone if rule[0] != ()],
                 work.still, work.pairs]
        return tuple([self.rows[rule[1]][0] for part in rules for rule in part if rule is not None])
