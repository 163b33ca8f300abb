"""What the tests compute on their own, change by change and letter by letter, to compare with."""

import itertools
import unittest

from asksmore.histories import History
from asksmore.letters import Letters
from asksmore.sentences import Sentence

# Every kind of value, for places where any value may be passed.
STRANGE = [None, True, False, 0, 1, -1, 10 ** 31, "", "zz", "A", (), ("a",), [], ["a"], ["a", 1], {}, {"a": 1},
           Letters(["a", "b"]), History(Letters(["a", "b"]), "new"), Sentence(Letters(["a", "b"]), "idle", "a")]

SIDES = {
    "idle": lambda x, y: ([x], []),
    "kept": lambda x, y: ([x, y], [x]),
    "still": lambda x, y: ([x], []),
    "over": lambda x, y: ([x, y], [y]),
    "undone": lambda x, y: ([x, y], []),
    "alike": lambda x, y: ([x], [y]),
}

DRIFT = {("idle", 1): 0, ("idle", -1): 0, ("kept", 1): 0, ("kept", -1): 0, ("still", 1): 0, ("still", -1): 0,
         ("alike", 1): 1, ("alike", -1): 1, ("over", 1): -1, ("over", -1): 1, ("undone", 1): -1,
         ("undone", -1): 1}


class Case(unittest.TestCase):
    """A test case that asks which error a call raises, and with which fields."""

    def fails(self, error, call, *wanted):
        with self.assertRaises(error) as caught:
            call()
        self.assertIs(type(caught.exception), error)
        fields = list(vars(caught.exception).values())
        self.assertEqual(fields, list(wanted))
        self.assertEqual([type(field) for field in fields], [type(field) for field in wanted])


def sides(sentence):
    """The left and the right side as lists of letters."""
    return SIDES[sentence.kind](sentence.first, sentence.second)


def changed(beginning, word, sentence, place, way):
    """A word after one change, or None if it cannot be done."""
    if sentence.kind == "still" and (beginning != "new" or place != 0):
        return None
    out, put = sides(sentence)[::way]
    if not 0 <= place <= len(word) or list(word[place:place + len(out)]) != out:
        return None
    return word[:place] + tuple(put) + word[place + len(out):]


def walked(sentences, beginning, word, steps):
    """A word after all steps, change by change, or None."""
    for row, place, way, times in steps:
        for _ in range(times):
            word = changed(beginning, word, sentences[row], place, way)
            if word is None:
                return None
            place += DRIFT[sentences[row].kind, way]
    return word


def words(letters, most):
    """All words of at most so many letters, in the order of words."""
    return [word for size in range(most + 1) for word in itertools.product(tuple(letters), repeat=size)]


def classes(sentences, beginning, letters, most):
    """From each word of at most so many letters to a number: equal ones are one by words of this size."""
    found = {}
    for start in words(letters, most):
        if start in found:
            continue
        number = len(found)
        found[start] = number
        todo = [start]
        while todo:
            word = todo.pop()
            for sentence, place, way in itertools.product(sentences, range(len(word) + 1), (1, -1)):
                other = changed(beginning, word, sentence, place, way)
                if other is not None and len(other) <= most and other not in found:
                    found[other] = number
                    todo.append(other)
    return found


def own_form(letters, told, most):
    """The closed form by what it says of histories, as far as words of this size show which are one."""
    found = classes(told, "found", letters, most)
    new = classes(told, "new", letters, most)
    idle = [x for x in letters if found[x,] == found[()]]
    least = {x: [z for z in letters if found[z,] == found[x,]][0] for x in letters if x not in idle}
    live = [x for x in letters if least.get(x) == x]
    form = [f"idle {x}" for x in idle]
    form += [f"alike {x} {least[x]}" for x in letters if x in least and x not in live]
    form += [f"still {y}" for y in live if new[y,] == new[()]]
    for x, y in itertools.product(live, live):
        if found[x, y] == found[x,]:
            form.append(f"kept {x} {y}")
        elif found[x, y] == found[y,]:
            form.append(f"over {x} {y}")
        elif found[x, y] == found[()]:
            form.append(f"undone {x} {y}")
    return form


def own_struck(closing, beginning, word):
    """The struck form of a word, striking one letter at a time."""
    kept = []
    for letter in word:
        least = closing.least(letter)
        kind = closing.pair(kept[-1], least) if kept and least else None
        if kind == "over":
            kept.pop()
            kept = list(own_struck(closing, beginning, kept + [least]))
        elif kind == "undone":
            kept.pop()
        elif kind is None and least and (kept or beginning != "new" or not closing.is_still(least)):
            kept.append(least)
    return tuple(kept)


def random_runs(source, letters, many, counts=(1, 2, 3)):
    """Some runs over the letters."""
    return [(source.choice(letters.words), source.choice(counts)) for _ in range(many)]


def random_told(source, letters, many, kinds=tuple(SIDES)):
    """Some sentences over the letters."""
    told = []
    while len(told) < many:
        kind = source.choice(kinds)
        x, y = source.choice(letters.words), source.choice(letters.words)
        if kind in ("idle", "still"):
            told.append(Sentence(letters, kind, x))
        elif kind != "alike" or x != y:
            told.append(Sentence(letters, kind, x, y))
    return told


def every_sentence(letters):
    """All state sentences over the letters, also those with another form."""
    found = []
    for x in letters:
        found += [Sentence(letters, "idle", x), Sentence(letters, "still", x)]
        for y in letters:
            found += [Sentence(letters, kind, x, y) for kind in ("kept", "over", "undone")]
            if x != y:
                found.append(Sentence(letters, "alike", x, y))
    return found
