"""Books: specifications of objects with several asks, and the programs that keep them."""

from asksmore.editions import within
from asksmore.errors import BadAsks, BadDeeds, BadName, BadProgram, BadRuns, OtherDeeds, TooMany, Unknown
from asksmore.histories import History, require_beginning, require_count
from asksmore.letters import Letters, is_letter
from asksmore.plain import WORD_SIGNS, is_list_of
from asksmore.specs import Spec, is_answering, letters_of

MOST_DEEDS = 6
MOST_ASKS = 8
MOST_NAME = 60
# These words begin lines of a text, so no ask has them.
NO_ASKS = ("deed", "ask")


def is_plain_word(value):
    """Whether a value is a letter without `~`."""
    return is_letter(value) and not value.startswith("~")


def is_new_word(value, pairs):
    """Whether a value is a plain word that none of the pairs has."""
    return is_plain_word(value) and value not in [word for word, _ in pairs]


def is_object_name(value):
    """Whether a value is the name of an object."""
    return isinstance(value, str) and 1 <= len(value) <= MOST_NAME and all([sign in WORD_SIGNS for sign in value])


def require_object(name, is_named):
    """Refuse what is not an object name, or what is not the empty string where no name is due."""
    is_right = is_object_name(name) if is_named else name == ""
    if not is_right:
        raise BadName(name)


def first_wrong(pairs, barred):
    """The index of the first element that is no pair of a new plain word, but none of these, and True or False; None
    if all are right."""
    for index, pair in enumerate(pairs):
        if not is_list_of(pair, 2) or not is_new_word(pair[0], pairs[:index]) or pair[0] in barred:
            return index
        if pair[1] is not True and pair[1] is not False:
            return index
    return None if len(pairs) > 0 else 0


def told_deeds(deeds):
    """The deeds as a tuple of pairs."""
    if len(deeds) > MOST_DEEDS:
        raise TooMany("deeds", len(deeds), MOST_DEEDS)
    wrong = first_wrong(deeds, ())
    if wrong is not None:
        raise BadDeeds(wrong)
    return tuple([tuple(pair) for pair in deeds])


def told_asks(asks):
    """The asks as a tuple of pairs."""
    if len(asks) > MOST_ASKS:
        raise TooMany("asks", len(asks), MOST_ASKS)
    wrong = first_wrong(asks, NO_ASKS)
    if wrong is not None:
        raise BadAsks(wrong)
    return tuple([tuple(pair) for pair in asks])


def letters_seen(deeds, is_named):
    """The letters of a plain or a named ask."""
    words = []
    for word, has_name in deeds:
        words.append(word)
        if is_named and has_name:
            words.append("~" + word)
    return Letters(words)


def seen_runs(deeds, is_named, name, runs):
    """The runs that a plain ask, or a named ask about a name, sees of the runs of an object."""
    names = dict(deeds)
    found = []
    for index, run in enumerate(runs):
        if not is_list_of(run, 3) or run[0] not in list(names):
            raise BadRuns(index)
        word, other, count = run
        require_object(other, names[word])
        require_count(index, count)
        is_other = is_named and names[word] and other != name
        found.append(("~" + word if is_other else word, count))
    return found


class CheckedDeeds:
    """The deeds of a book that is there already, and specifications that another book of its asks is to hold."""

    def __init__(self, deeds, specs):
        self.deeds = deeds
        self.specs = specs


class Book:
    """The specifications of the asks of one object."""

    def __init__(self, deeds, asks):
        if isinstance(deeds, CheckedDeeds):
            self.deeds, self.asks, self._specs = deeds.deeds, asks, deeds.specs
        else:
            self.deeds = told_deeds(deeds)
            self.asks = told_asks(asks)
            self._specs = {word: Spec(letters_seen(self.deeds, is_named)) for word, is_named in self.asks}

    def __iter__(self):
        raise TypeError("a book is not iterated over")

    def __getitem__(self, at):
        for word, _ in self.asks:
            if word == at:
                return self._specs[word]
        raise Unknown(at)

    def seen(self, ask, name, beginning, runs):
        """The history that an ask sees of the runs of an object."""
        letters = self[ask].letters
        is_named = dict(self.asks)[ask]
        require_object(name, is_named)
        require_beginning(beginning)
        return History(letters, beginning, seen_runs(self.deeds, is_named, name, runs))

    def copy(self):
        """Another book with the same entries."""
        return Book(CheckedDeeds(self.deeds, {word: self._specs[word].copy() for word in self._specs}), self.asks)

    def beside(self, ask, spec):
        """Another book that holds this specification for an ask, and shares those of the other asks with this one."""
        specs = {word: spec if word == ask else self._specs[word] for word in self._specs}
        return Book(CheckedDeeds(self.deeds, specs), self.asks)

    def is_possible(self):
        """Whether the specification of each ask is possible."""
        return all([self._specs[word].is_possible() for word in self._specs])

    def has_deeds_of(self, other):
        """Whether deeds and asks are those of another book."""
        return self.deeds == other.deeds and self.asks == other.asks

    def within(self, other):
        """Whether every program that keeps this book keeps another one."""
        if not self.has_deeds_of(other):
            raise OtherDeeds()
        # Where one ask has no answerer, no program keeps the other asks, either.
        return not self.is_possible() or all([within(self[word], other[word]) for word, _ in self.asks])

    def admits(self, program):
        """Whether a value is a program for these deeds and asks that keeps every sentence."""
        return (isinstance(program, Program) and self.has_deeds_of(program.shape)
                and self.unkept(program) is None)

    def unkept(self, program):
        """The first ask, and the first name of its sentences, that a program does not keep; or None."""
        if not self.has_deeds_of(program.shape):
            raise OtherDeeds()
        for word, _ in self.asks:
            name = self[word].unkept(program.answerers[word])
            if name is not None:
                return word, name
        return None


class Program:
    """An answerer for each ask of a book; it answers for every name alike."""

    def __init__(self, book, answerers):
        for word, _ in book.asks:
            if word not in answerers or not is_answering(answerers[word]):
                raise BadProgram(word)
            if letters_of(answerers[word]) != book[word].letters:
                raise BadProgram(word)
        # Only what its asks see is needed of the book, which may be changed afterwards.
        self.shape = Book(book.deeds, book.asks)
        self.answerers = {word: answerers[word] for word, _ in book.asks}

    def __call__(self, ask, name, beginning, runs):
        history = self.shape.seen(ask, name, beginning, runs)
        return self.answerers[ask](history)
