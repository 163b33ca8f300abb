"""Letters: the deeds as an ask sees them."""

from asksmore.errors import BadLetter, BadLetters, OtherLetters, TooMany
from asksmore.plain import is_short_word

BEGINNINGS = ("new", "found")
MOST_LETTERS = 12


def is_letter(value):
    """Whether a value has the form of a letter: perhaps `~`, then a plain word."""
    if not isinstance(value, str):
        return False
    word = value[1:] if value.startswith("~") else value
    # Tops are letters or beginnings, so no letter may look like a beginning.
    return is_short_word(word) and word not in BEGINNINGS


def require_same(one, other):
    """Refuse two things over different letters."""
    if one != other:
        raise OtherLetters()


class Letters:
    """An ordered collection of different letters."""

    def __init__(self, words):
        many = len(words)
        if many > MOST_LETTERS:
            raise TooMany("letters", many, MOST_LETTERS)
        if many == 0:
            raise BadLetters(0)
        kept = []
        for index, word in enumerate(words):
            if not is_letter(word) or word in kept:
                raise BadLetters(index)
            kept.append(word)
        self.words = tuple(kept)

    def rank(self, x):
        """The index of a letter."""
        for place, word in enumerate(self.words):
            if word == x:
                return place
        raise BadLetter(0)

    def __contains__(self, x):
        return x in self.words

    def __len__(self):
        return len(self.words)

    def __eq__(self, other):
        return isinstance(other, Letters) and self.words == other.words

    def __iter__(self):
        return iter(self.words)
