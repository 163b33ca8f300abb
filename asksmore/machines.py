"""Machines: answerers with finitely many states."""

from asksmore.errors import BadAnswers, BadRow, BadState, TooMany, Uneven
from asksmore.histories import History, require_beginning
from asksmore.letters import BEGINNINGS, require_same
from asksmore.plain import is_index, is_list_of
from asksmore.sentences import Sentence, answer_set, is_answer
from asksmore.sorts import Sort
from asksmore.tables import Table, leap, merged, renumbered, seen_from

MOST_STATES = 40


def told_rows(letters, rows):
    """The rows of next states as tuples."""
    many = len(rows)
    if not 1 <= many <= MOST_STATES:
        raise TooMany("states", many, MOST_STATES)
    for index, row in enumerate(rows):
        if not is_list_of(row, len(letters)) or not all([is_index(state, many) for state in row]):
            raise BadRow(index)
    return tuple([tuple(row) for row in rows])


def told_answers(answers, many):
    """The answers of so many states as a tuple."""
    if len(answers) != many:
        raise Uneven(len(answers), many)
    for index, answer in enumerate(answers):
        if not is_answer(answer):
            raise BadAnswers(index)
    return tuple(answers)


def first_histories(starts, onward):
    """From each node that is reached to its first history: a beginning and the ranks of letters. The nodes stand in
    the order of these histories.

    `starts` are the nodes of the two beginnings. `onward` gives the nodes behind a node, by the ranks of letters.
    """
    found = {}
    for beginning, node in zip(BEGINNINGS, starts):
        found.setdefault(node, (beginning, ()))
    order = list(found)
    at = 0
    while at < len(order):
        node = order[at]
        beginning, word = found[node]
        for rank, target in enumerate(onward(node)):
            if target not in found:
                found[target] = (beginning, (*word, rank))
                order.append(target)
        at += 1
    return found


class Machine:
    """An answerer given by the rows of its next states and by the answers of its states."""

    def __init__(self, letters, rows, answers, *, new=0, found=0):
        self.letters = letters
        self.rows = told_rows(letters, rows)
        self.answers = told_answers(answers, len(self.rows))
        for index, state in enumerate((new, found)):
            if not is_index(state, len(self.rows)):
                raise BadState(index)
        self.new = new
        self.found = found

    @property
    def states(self):
        """The number of states."""
        return len(self.rows)

    def __call__(self, history):
        return self.answers[self.state(history)]

    def state(self, history):
        """The state after a history."""
        require_same(self.letters, history.letters)
        return self.after_runs(self.start(history.beginning), history.runs)

    def start(self, beginning):
        """The state of a beginning."""
        return self.new if beginning == "new" else self.found

    def after_runs(self, state, runs):
        """The state to which runs lead from a state."""
        for letter, count in runs:
            state = leap(self.rows, state, self.letters.rank(letter), count)
        return state

    def reached(self):
        """The reached states with their first histories."""
        return first_histories((self.new, self.found), lambda state: self.rows[state])

    def history_of(self, way):
        """The history of a beginning and ranks of letters."""
        beginning, word = way
        return History.spelled(self.letters, beginning, [self.letters.words[rank] for rank in word])

    def breaks(self, sentence):
        """The first history at which the machine does not keep a sentence, or None."""
        require_same(self.letters, sentence.letters)
        if isinstance(sentence, Sentence):
            left, right = sentence.left.runs, sentence.right.runs
            wrong = [way for state, way in self.spoken(sentence.kind, None)
                     if self.after_runs(state, left) != self.after_runs(state, right)]
        else:
            wrong = [way for state, way in self.spoken(sentence.kind, sentence.letter)
                     if self.answers[state] not in sentence.answers]
        return self.history_of(wrong[0]) if wrong else None

    def spoken(self, kind, letter):
        """The states of which a sentence speaks, each with a first history, in the order of these histories."""
        if kind in ("still", "fresh"):
            return [(self.new, ("new", ()))]
        ways = self.reached()
        if kind != "behind":
            return [(state, ways[state]) for state in ways]
        rank = self.letters.rank(letter)
        return [(self.rows[state][rank], (ways[state][0], (*ways[state][1], rank))) for state in ways]

    def minimal(self):
        """The machine with the fewest states that gives the same answer after every history."""
        order = list(self.reached())
        answers = [self.answers[state] for state in order]
        kinds = [answers.index(answer) for answer in answers]
        rows, first, number = merged(renumbered(self.rows, order), kinds)
        found = number[order.index(self.found)]
        return Machine(self.letters, rows, [answers[at] for at in first], new=0, found=found)

    def apart(self, other):
        """The first history after which the answers of two machines differ, or None."""
        require_same(self.letters, other.letters)
        ways = first_histories(((self.new, other.new), (self.found, other.found)),
                               lambda pair: list(zip(self.rows[pair[0]], other.rows[pair[1]])))
        wrong = [ways[one, two] for one, two in ways if self.answers[one] != other.answers[two]]
        return self.history_of(wrong[0]) if wrong else None

    def words_with(self, beginning, answers):
        """The sort of the words after which, from a beginning, the answer is one of these."""
        require_beginning(beginning)
        kept = answer_set(answers)
        table = Table(self.rows, [answer in kept for answer in self.answers])
        return Sort(self.letters, seen_from(table, self.start(beginning)), ())
