"""Chains: steps that lead from one history to another."""

from asksmore.errors import BadStep, TooLong
from asksmore.plain import is_list_of
from asksmore.sentences import Sentence
from asksmore.steps import drift, is_step, leads, turned
from asksmore.strikes import strike


def is_chain(sentences, first, last, steps):
    """Whether a value is a chain by these sentences that leads from one history to the other."""
    letters = first.letters
    if last.letters != letters or any([sentence.letters != letters for sentence in sentences]):
        return False
    return leads(sentences, first, last, steps)


def is_rows(letters, told, rows):
    """Whether a value holds the told sentences and then rows that follow from earlier ones."""
    if not isinstance(rows, (list, tuple)) or not all([is_row(letters, row) for row in rows]):
        return False
    sentences = [row[0] for row in rows]
    if sentences[:len(told)] != list(told):
        return False
    return all([is_shown(len(told), sentences, rows, index) for index in range(len(rows))])


def is_row(letters, row):
    """Whether a value is a pair of a sentence over these letters and something else."""
    return is_list_of(row, 2) and isinstance(row[0], Sentence) and row[0].letters == letters


def is_shown(many, sentences, rows, index):
    """Whether a row has the chain that it must have: an empty one if it is one of the many that are told."""
    sentence, steps = rows[index]
    if index < many:
        return is_list_of(steps, 0)
    return leads(sentences[:index], sentence.left, sentence.right, steps)


def chain(closing, history):
    """A chain that leads from a history to its struck form; all its ways are 1."""
    return tuple(strike(closing, history).steps)


def why(closing, one, other):
    """A chain that leads from one history to the other; None if they are not one."""
    ahead = strike(closing, one)
    back = strike(closing, other)
    if one.beginning != other.beginning or ahead.runs != back.runs:
        return None
    return tuple(ahead.steps) + turned(kinds_of(closing), back.steps)


def kinds_of(closing):
    """The kinds of the sentences of the rows."""
    return [sentence.kind for sentence, steps in closing.rows]


def length(closing, steps):
    """The number of changes by told sentences that some steps stand for."""
    total = 0
    for index, step in enumerate(steps):
        if not is_step(step, len(closing.rows)):
            raise BadStep(index)
        total += step[3] * closing.lengths[step[0]]
    return total


def unfolded(closing, steps, *, most=1000):
    """The same chain by told sentences alone, one change a step."""
    size = length(closing, steps)
    if size > most:
        raise TooLong(size)
    kinds = kinds_of(closing)
    changes = {}
    for row in needed_rows(closing, steps):
        below = closing.rows[row][1]
        changes[row] = all_changes(kinds, changes, below) if below else [(row, 0, 1)]
    return tuple([(row, place, way, 1) for row, place, way in all_changes(kinds, changes, steps)])


def needed_rows(closing, steps):
    """The rows that some steps use, also by way of other rows, from the first one on."""
    needed = {step[0]: True for step in steps}
    for row in range(len(closing.rows) - 1, -1, -1):
        if row in needed:
            needed.update({step[0]: True for step in closing.rows[row][1]})
    return sorted(needed)


def all_changes(kinds, changes, steps):
    """The changes that steps stand for, from the changes of each row that is used, at place 0."""
    found = []
    for row, place, way, times in steps:
        moved = drift(kinds[row], way)
        for turn in range(times):
            for told, at, told_way in changes[row][::way]:
                found.append((told, place + turn * moved + at, way * told_way))
    return found
