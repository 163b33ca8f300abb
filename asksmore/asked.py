"""Tests: what is asked of one answerer behind all histories of a sort."""

from asksmore.errors import BadWord, TooMany
from asksmore.histories import require_beginning
from asksmore.sentences import answer_set

MOST_WORD = 6


def told_word(letters, which, word):
    """A word of a test as a tuple; which one of the two it is, is said by an error."""
    if len(word) > MOST_WORD:
        raise TooMany("letters", len(word), MOST_WORD)
    for index, letter in enumerate(word):
        if letter not in letters:
            raise BadWord(which, index)
    return tuple(word)


class After:
    """After each history of a sort the answer is one of some answers."""

    def __init__(self, beginning, domain, answers):
        require_beginning(beginning)
        self.beginning = beginning
        self.domain = domain
        self.letters = domain.letters
        self.answers = answer_set(answers)

    def __eq__(self, other):
        return (isinstance(other, After) and self.beginning == other.beginning and self.domain == other.domain
                and self.answers == other.answers)


class Same:
    """Behind each history of a sort, the answers after two words are equal."""

    def __init__(self, beginning, domain, one, other):
        require_beginning(beginning)
        self.beginning = beginning
        self.domain = domain
        self.letters = domain.letters
        self.one = told_word(domain.letters, 0, one)
        self.other = told_word(domain.letters, 1, other)

    def __eq__(self, other):
        return (isinstance(other, Same) and self.beginning == other.beginning and self.domain == other.domain
                and self.one == other.one and self.other == other.other)


class State:
    """Behind each history of a sort, two words lead to the same state."""

    def __init__(self, beginning, domain, one, other):
        require_beginning(beginning)
        self.beginning = beginning
        self.domain = domain
        self.letters = domain.letters
        self.one = told_word(domain.letters, 0, one)
        self.other = told_word(domain.letters, 1, other)

    def __eq__(self, other):
        return (isinstance(other, State) and self.beginning == other.beginning and self.domain == other.domain
                and self.one == other.one and self.other == other.other)
