"""Desks: changes of a book under which some tests must stay fair."""

from asksmore.editions import holds
from asksmore.errors import Impossible, Known, NothingLeft, Overasked, Refused, TooMany, Unknown
from asksmore.reading import LineReader
from asksmore.specs import require_name
from asksmore.texts import take_item, take_test

MOST_GUARDS = 12


def take_name(words):
    """Take any word that is not empty."""
    return words.take(lambda word: word != "")


def run_say(desk, words):
    """Say what the words tell."""
    ask, spec = desk.take_ask(words)
    name = take_name(words)
    item = take_item(words, spec.letters)
    words.finish()
    desk.say(ask, name, item)
    return "done"


def run_drop(desk, words):
    """Drop what the words tell."""
    ask, _ = desk.take_ask(words)
    name = take_name(words)
    words.finish()
    desk.drop(ask, name)
    return "done"


def run_guard(desk, words):
    """Add the guard that the words tell."""
    name = take_name(words)
    ask, spec = desk.take_ask(words)
    test = take_test(words, spec.letters)
    desk.guard(name, ask, test)
    return "done"


def run_release(desk, words):
    """Remove the guard that the words tell."""
    name = take_name(words)
    words.finish()
    desk.release(name)
    return "done"


def run_undo(desk, words):
    """Take back the last change."""
    words.finish()
    desk.undo()
    return "done"


def run_redo(desk, words):
    """Do again what was taken back last."""
    words.finish()
    desk.redo()
    return "done"


def run_decide(desk, words):
    """Whether the test that the words tell is fair."""
    _, spec = desk.take_ask(words)
    test = take_test(words, spec.letters)
    return "fair" if spec.decide(test).fair else "overasked"


def run_follows(desk, words):
    """Whether the sentence that the words tell follows."""
    _, spec = desk.take_ask(words)
    item = take_item(words, spec.letters)
    words.finish()
    return "yes" if holds(spec, item) else "no"


RUNS = {"say": run_say, "drop": run_drop, "guard": run_guard, "release": run_release, "undo": run_undo,
        "redo": run_redo, "decide": run_decide, "follows": run_follows}


class Desk:
    """A book that is changed step by step, and guards: tests that must stay fair."""

    def __init__(self, book):
        if not book.is_possible():
            raise Impossible()
        # A book that is held here is never changed any more, so what was may be kept and come back, and two such books
        # share the specifications that a change has left as they were.
        self._book = book.copy()
        self._guards = ()
        # What can be taken back and done again: a book, its guards and what lies beyond them, or nothing. So a change
        # takes no longer the more changes there were.
        self._past = ()
        self._future = ()

    def book(self):
        """A copy of the present book."""
        return self._book.copy()

    @property
    def guards(self):
        """The triples of a name, an ask and a test, in order."""
        return self._guards

    def say(self, ask, name, item):
        """Let an item stand under a name."""
        spec = self._book[ask].copy()
        spec[name] = item
        self.settle(spec, ask, name)

    def drop(self, ask, name):
        """Take a name out."""
        spec = self._book[ask].copy()
        spec.drop(name)
        self.settle(spec, ask, name)

    def settle(self, spec, ask, name):
        """Let an ask have a changed specification, unless it must be refused."""
        if not spec.is_possible():
            raise Refused(ask, name) from Impossible()
        for guard, other, test in self._guards:
            if other == ask and not spec.decide(test).fair:
                raise Refused(ask, name) from Overasked(guard)
        self.go_on(self._book.beside(ask, spec), self._guards)

    def guard(self, name, ask, test):
        """Add a guard at the end."""
        require_name(name)
        if name in self.guard_names():
            raise Known(name)
        verdict = self._book[ask].decide(test)
        if len(self._guards) == MOST_GUARDS:
            raise TooMany("guards", MOST_GUARDS + 1, MOST_GUARDS)
        if not verdict.fair:
            raise Overasked(name)
        self.go_on(self._book, (*self._guards, (name, ask, test)))

    def guard_names(self):
        """The names of the guards, in order."""
        return [guard[0] for guard in self._guards]

    def release(self, name):
        """Remove a guard."""
        if name not in self.guard_names():
            raise Unknown(name)
        self.go_on(self._book, tuple([guard for guard in self._guards if guard[0] != name]))

    def go_on(self, book, guards):
        """Make a change that may be taken back; what was taken back before is gone."""
        self._past = (self._book, self._guards, self._past)
        self._future = ()
        self._book, self._guards = book, guards

    def undo(self):
        """Take back the last change."""
        if not self._past:
            raise NothingLeft()
        self._future = (self._book, self._guards, self._future)
        self._book, self._guards, self._past = self._past

    def redo(self):
        """Do again the change that was taken back last."""
        if not self._future:
            raise NothingLeft()
        self._past = (self._book, self._guards, self._past)
        self._book, self._guards, self._future = self._future

    def take_ask(self, words):
        """Take the word of an ask; this word and its present specification, which is only to be looked at."""
        ask = words.take_one_of([word for word, _ in self._book.asks])
        return ask, self._book[ask]

    def run(self, line):
        """Do what a line says, and say what comes of it."""
        words = LineReader(line, 1)
        action = RUNS[words.take_one_of(list(RUNS))]
        return action(self, words)

    def trial(self, action):
        """What an action on this desk returns; its changes are taken back."""
        book, guards, past, future = self._book, self._guards, self._past, self._future
        try:
            return action(self)
        finally:
            self._book, self._guards, self._past, self._future = book, guards, past, future
