"""What the tests compute on their own about programs and specifications, by listing histories up to some size."""

import itertools

from asksmore.histories import History
from asksmore.machines import Machine
from asksmore.sentences import Limit, Sentence
from asksmore.specs import Spec
from tests.own import random_told, sides
from tests.test_allowed import random_limits


def histories(letters, most):
    """Beginnings and words up to some size, in the order of histories."""
    for size in range(most + 1):
        for beginning in ("new", "found"):
            for word in itertools.product(tuple(letters), repeat=size):
                yield beginning, word


def spelled(letters, way):
    """The history of a beginning and a word."""
    return History.spelled(letters, *way)


def speaks(item, beginning, word):
    """Whether an answer sentence speaks of a history, or a state sentence of the state after it."""
    if isinstance(item, Sentence):
        return item.kind != "still" or (beginning, word) == ("new", ())
    if item.kind == "behind":
        return word[-1:] == (item.letter,)
    return item.kind == "always" or (beginning, word) == ("new", ())


def broken_at(item, answers, states, beginning, word):
    """Whether a program breaks a sentence at a history, where its answers and states are told by functions."""
    if not speaks(item, beginning, word):
        return False
    if isinstance(item, Limit):
        return answers(beginning, word) not in item.answers
    left, right = sides(item)
    return states(beginning, word + tuple(left)) != states(beginning, word + tuple(right))


class Rows:
    """A machine by plain rows, stepped letter by letter."""

    def __init__(self, machine):
        self.ranks = {letter: rank for rank, letter in enumerate(machine.letters)}
        self.machine = machine

    def state(self, beginning, word):
        """The state after a history."""
        at = {"new": self.machine.new, "found": self.machine.found}[beginning]
        for letter in word:
            at = self.machine.rows[at][self.ranks[letter]]
        return at

    def answer(self, beginning, word):
        """The answer after a history."""
        return self.machine.answers[self.state(beginning, word)]

    def first_break(self, item, most):
        """The first history up to some size at which a sentence is broken, or None."""
        for beginning, word in histories(self.machine.letters, most):
            if broken_at(item, self.answer, self.state, beginning, word):
                return beginning, word
        return None


def random_answerer(source, letters, states, answers=("no", "yes", "a", "b1")):
    """Some machine."""
    rows = [[source.randrange(states) for _ in letters] for _ in range(states)]
    return Machine(letters, rows, [source.choice(answers) for _ in rows], new=source.randrange(states),
                   found=source.randrange(states))


def random_spec(source, letters, told=3, limits=3, kinds=None):
    """Some specification, with state and answer sentences in any order."""
    items = random_told(source, letters, source.randrange(told + 1), *([kinds] if kinds else []))
    items += random_limits(source, letters, source.randrange(limits + 1))
    source.shuffle(items)
    spec = Spec(letters)
    for at, item in enumerate(items):
        spec[f"s{at}"] = item
    return spec


def every_limit(letters, answers):
    """An answer sentence of each kind and letter with these answers."""
    found = [Limit(letters, "always", answers), Limit(letters, "fresh", answers)]
    return found + [Limit(letters, "behind", answers, x) for x in letters]
