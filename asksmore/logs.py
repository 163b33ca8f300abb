"""Logs: what was observed of one answerer that is said to keep a specification."""

from asksmore.chains import chain, why
from asksmore.errors import BadAnswers, Impossible, NoFact, TooMany
from asksmore.histories import History, require_beginning
from asksmore.letters import require_same
from asksmore.sentences import is_answer
from asksmore.sorts import Sort
from asksmore.strikes import struck

MOST_FACTS = 60
MOST_UNREAD = 64


class Log:
    """Facts about one answerer: histories with the answers after them."""

    def __init__(self, spec):
        self._spec = spec.copy()
        self._facts = ()
        # The struck form of the history of each fact.
        self._forms = ()

    @property
    def facts(self):
        """The pairs of a history and an answer, in order."""
        return self._facts

    def spec(self):
        """A copy of the specification."""
        return self._spec.copy()

    def record(self, history, answer):
        """Append a fact; its number."""
        require_same(self._spec.letters, history.letters)
        if not is_answer(answer):
            raise BadAnswers(0)
        number = len(self._facts)
        if number == MOST_FACTS:
            raise TooMany("facts", number + 1, MOST_FACTS)
        self._forms = (*self._forms, struck(self._spec.closing, history))
        self._facts = (*self._facts, (history, answer))
        return number

    def undo(self):
        """Remove the last fact; this fact."""
        if not self._facts:
            raise NoFact()
        last = self._facts[-1]
        self._facts, self._forms = self._facts[:-1], self._forms[:-1]
        return last

    def broken(self):
        """The numbers of the facts that no answerer has that keeps the specification: the first one alone, or with
        an earlier one; no number if nothing keeps it; None while some answerer has all facts."""
        if not self._spec.is_possible():
            return ()
        for number, (_, answer) in enumerate(self._facts):
            form = self._forms[number]
            allowed = self._spec.allowed(form.last)
            if allowed is not None and answer not in allowed:
                return (number,)
            elder = self.first_with(form)
            if self._facts[elder][1] != answer:
                return elder, number
        return None

    def first_with(self, form):
        """The number of the first fact with a struck form, or None."""
        for number, other in enumerate(self._forms):
            if other == form:
                return number
        return None

    def why(self):
        """A chain that shows why the log is broken; None if it is not."""
        numbers = self.broken()
        if numbers is None:
            return None
        if numbers == ():
            raise Impossible()
        histories = [self._facts[number][0] for number in numbers]
        if len(histories) == 1:
            return chain(self._spec.closing, histories[0])
        return why(self._spec.closing, histories[0], histories[1])

    def possible(self, history):
        """The answers that the answerer may give after a history, ascending; None if any answer is possible."""
        require_same(self._spec.letters, history.letters)
        return self.possible_at(history) if self.broken() is None else ()

    def possible_at(self, history):
        """The answers that are possible after a history, where the log is not broken."""
        form = struck(self._spec.closing, history)
        number = self.first_with(form)
        return self._spec.allowed(form.last) if number is None else (self._facts[number][1],)

    def sure(self, history):
        """The answer after a history, if only one is possible, or None."""
        answers = self.possible(history)
        return answers[0] if answers is not None and len(answers) == 1 else None

    def unread(self, beginning, menus):
        """The answers that are possible after a history of which only menus are known, ascending, or None."""
        require_beginning(beginning)
        letters = self._spec.letters
        words = Sort.menus(letters, menus)
        many = words.number_of(len(menus))
        if many > MOST_UNREAD:
            raise TooMany("words", many, MOST_UNREAD)
        if self.broken() is not None:
            return ()
        found = [self.possible_at(History.spelled(letters, beginning, words[place])) for place in range(many)]
        if None in found:
            return None
        return tuple(sorted(set([answer for answers in found for answer in answers])))
