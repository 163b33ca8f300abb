"""Sentences: what a specification says about states and about answers."""

from asksmore.errors import BadAnswers, BadKind, BadLetter, SaysNothing, TooMany
from asksmore.histories import CheckedRuns, History
from asksmore.plain import is_short_word
from asksmore.runs import joined

KINDS = ("idle", "kept", "still", "over", "undone", "alike")
LONE_KINDS = ("idle", "still")
LIMIT_KINDS = ("always", "fresh", "behind")
MOST_ANSWERS = 6


def is_answer(value):
    """Whether a value is an answer."""
    return is_short_word(value)


def answer_set(answers):
    """The different answers of a list, ascending."""
    if len(answers) == 0:
        raise BadAnswers(0)
    for index, answer in enumerate(answers):
        if not is_answer(answer):
            raise BadAnswers(index)
    kept = tuple(sorted(set(answers)))
    if len(kept) > MOST_ANSWERS:
        raise TooMany("answers", len(kept), MOST_ANSWERS)
    return kept


def is_due(letters, value, has_letter):
    """Whether a value is a letter, for a kind that has one there, or else None."""
    return value in letters if has_letter else value is None


def sides(kind, first, second, times):
    """The runs that so many changes from left to right take out together, and those they put in."""
    if kind in LONE_KINDS:
        return ((first, times),), ()
    if kind == "alike":
        return ((first, times),), ((second, times),)
    if kind == "kept":
        return ((first, 1), (second, times)), ((first, 1),)
    if kind == "over":
        return ((first, times), (second, 1)), ((second, 1),)
    return ((first, times), (second, times)), ()


def one_form(letters, kind, first, second):
    """The kind and the letters of the one form of a sentence."""
    if kind == "over" and first == second:
        return "kept", first, second
    if kind == "alike" and letters.rank(first) < letters.rank(second):
        return kind, second, first
    return kind, first, second


def side_of(sentence, which):
    """The left (0) or the right (1) side of a state sentence as a history."""
    runs = sides(sentence.kind, sentence.first, sentence.second, 1)[which]
    return History(sentence.letters, "new" if sentence.kind == "still" else "found", CheckedRuns(joined(runs)))


class Sentence:
    """A state sentence: its two sides lead to the same state."""

    def __init__(self, letters, kind, first, second=None):
        if kind not in KINDS:
            raise BadKind()
        if first not in letters:
            raise BadLetter(0)
        if not is_due(letters, second, kind not in LONE_KINDS):
            raise BadLetter(1)
        if kind == "alike" and first == second:
            raise SaysNothing()
        self.letters = letters
        self.kind, self.first, self.second = one_form(letters, kind, first, second)

    @property
    def left(self):
        """The left side as a history."""
        return side_of(self, 0)

    @property
    def right(self):
        """The right side as a history."""
        return side_of(self, 1)

    def __eq__(self, other):
        return (isinstance(other, Sentence) and self.letters == other.letters and self.kind == other.kind
                and self.first == other.first and self.second == other.second)

    def __str__(self):
        return " ".join([word for word in (self.kind, self.first, self.second) if word is not None])


class Limit:
    """An answer sentence: some answers are among these."""

    def __init__(self, letters, kind, answers, letter=None):
        if kind not in LIMIT_KINDS:
            raise BadKind()
        kept = answer_set(answers)
        if not is_due(letters, letter, kind == "behind"):
            raise BadLetter(0)
        self.letters = letters
        self.kind = kind
        self.answers = kept
        self.letter = letter

    def __eq__(self, other):
        return (isinstance(other, Limit) and self.letters == other.letters and self.kind == other.kind
                and self.answers == other.answers and self.letter == other.letter)

    def __str__(self):
        head = [word for word in (self.kind, self.letter) if word is not None]
        return " ".join([*head, *self.answers])
