"""Points 8, 16 and 18: chains."""

import itertools
import random
import unittest

from asksmore.chains import chain, is_chain, is_rows, length, unfolded, why
from asksmore.closing import close
from asksmore.errors import BadStep, OtherLetters, TooLong
from asksmore.histories import History
from asksmore.letters import Letters
from asksmore.sentences import Limit, Sentence
from asksmore.strikes import struck
from tests.own import DRIFT, STRANGE, Case, every_sentence, random_runs, random_told, walked, words

AB = Letters(["a", "b"])
ABC = Letters(["a", "b", "c"])
ABCD = Letters(["a", "b", "c", "d"])
BIG = 10 ** 30

NO_STEPS = [None, True, 1, "", "a", "abcd", (), [], {}, {1: 1, 2: 2, 3: 3, 4: 4}, (0, 0, 1), (0, 0, 1, 1, 1),
            (True, 0, 1, 1), (0, False, 1, 1), (0, 0, True, 1), (0, 0, 1, True), ("0", 0, 1, 1), (0, "0", 1, 1),
            (0, 0, "1", 1), (0, 0, 1, "1"), (None, 0, 1, 1), (0, None, 1, 1), (0, 0, None, 1), (0, 0, 1, None),
            ([0], 0, 1, 1), (0, (0,), 1, 1), (0, 0, {}, 1), (0, 0, 1, [1]), (-1, 0, 1, 1), (10 ** 6, 0, 1, 1),
            (0, -1, 1, 1), (0, 0, 0, 1), (0, 0, 2, 1), (0, 0, -2, 1), (0, 0, 1, 0), (0, 0, 1, -1), AB,
            History(AB, "new"), Sentence(AB, "idle", "a"), [[0, 0, 1, 1]]]


def told(letters, *texts):
    return [Sentence(letters, *text.split()) for text in texts]


def spelled(letters, beginning, text):
    return History.spelled(letters, beginning, list(text))


class IsChainTest(Case):
    def one(self, text, beginning, first, last, *step):
        sentences = told(ABC, text)
        first, last = spelled(ABC, beginning, first), spelled(ABC, beginning, last)
        return is_chain(sentences, first, last, [(0, *step)])

    def yes(self, text, beginning, first, last, *step):
        self.assertIs(self.one(text, beginning, first, last, *step), True)

    def no(self, text, beginning, first, last, *step):
        self.assertIs(self.one(text, beginning, first, last, *step), False)

    def test_examples(self):
        deeds = Letters(["drop", "clear"])
        given = [Sentence(deeds, "kept", "clear", "drop"), Sentence(deeds, "still", "clear")]
        first = History(deeds, "new", [("drop", 1)])
        self.assertIs(is_chain(given, first, History(deeds, "new"), [(1, 0, -1, 1), (0, 0, 1, 1), (1, 0, 1, 1)]), True)
        steps = Letters(["up", "down"])
        given = [Sentence(steps, "undone", "up", "down")]
        first = History(steps, "found", [("up", 5), ("down", 3)])
        self.assertIs(is_chain(given, first, History(steps, "found", [("up", 2)]), [(0, 4, 1, 3)]), True)

    def test_empty_chain(self):
        for beginning in ("new", "found"):
            for text in ("", "ab"):
                history = spelled(AB, beginning, text)
                self.assertIs(is_chain([], history, spelled(AB, beginning, text), []), True)
                self.assertIs(is_chain([], history, history, ()), True)
                self.assertIs(is_chain([], history, history + [("a", 1)], ()), False)
        self.assertIs(is_chain([], History(AB, "new"), History(AB, "found"), ()), False)

    def test_idle(self):
        for beginning in ("new", "found"):
            self.yes("idle a", beginning, "baab", "bb", 1, 1, 2)
            self.yes("idle a", beginning, "baab", "bab", 1, 1, 1)
            self.yes("idle a", beginning, "baab", "bab", 2, 1, 1)
            self.no("idle a", beginning, "baab", "bb", 2, 1, 2)
            self.no("idle a", beginning, "baab", "bab", 0, 1, 1)
            self.no("idle a", beginning, "baab", "bab", 3, 1, 1)
            self.no("idle a", beginning, "baa", "ba", 3, 1, 1)
            self.yes("idle a", beginning, "bb", "baaab", 1, -1, 3)
            self.yes("idle a", beginning, "bb", "aabb", 0, -1, 2)
            self.yes("idle a", beginning, "bb", "bba", 2, -1, 1)
            self.no("idle a", beginning, "bb", "bba", 3, -1, 1)
            self.yes("idle a", beginning, "", "aa", 0, -1, 2)

    def test_kept(self):
        self.yes("kept a b", "found", "cabbb", "cab", 1, 1, 2)
        self.yes("kept a b", "found", "cabbb", "ca", 1, 1, 3)
        self.no("kept a b", "found", "cabbb", "ca", 1, 1, 4)
        self.no("kept a b", "found", "cabbb", "cabb", 2, 1, 1)
        self.no("kept a b", "found", "cabbb", "cabb", 0, 1, 1)
        self.yes("kept a b", "new", "cac", "cabbbc", 1, -1, 3)
        self.no("kept a b", "new", "cac", "cabc", 2, -1, 1)
        self.yes("kept a a", "found", "caaab", "cab", 1, 1, 2)
        self.yes("kept a a", "found", "caaab", "caab", 2, 1, 1)
        self.no("kept a a", "found", "caaab", "caab", 3, 1, 1)
        self.no("kept a a", "found", "caaab", "cb", 1, 1, 3)
        self.yes("kept a a", "found", "cab", "caaab", 1, -1, 2)

    def test_over(self):
        self.yes("over a b", "found", "caaab", "cb", 3, 1, 3)
        self.yes("over a b", "found", "caaabb", "cabb", 3, 1, 2)
        self.no("over a b", "found", "caaab", "cb", 1, 1, 3)
        self.no("over a b", "found", "caaab", "cb", 3, 1, 4)
        self.no("over a b", "found", "aaab", "b", 2, 1, 4)
        self.no("over a b", "found", "caaab", "caab", 2, 1, 1)
        self.yes("over a b", "new", "cb", "caaab", 1, -1, 3)
        self.no("over a b", "new", "cb", "caab", 0, -1, 2)
        self.no("over a b", "new", "cb", "caab", 2, -1, 2)
        self.yes("over a b", "new", "cbb", "cbab", 2, -1, 1)

    def test_undone(self):
        self.yes("undone a b", "found", "caaabbb", "cab", 3, 1, 2)
        self.yes("undone a b", "found", "caaabbb", "c", 3, 1, 3)
        self.no("undone a b", "found", "caaabbb", "", 3, 1, 4)
        self.no("undone a b", "found", "caaabb", "c", 3, 1, 3)
        self.no("undone a b", "found", "caaabbb", "caabb", 2, 1, 1)
        self.no("undone a b", "found", "caaabbb", "caabb", 4, 1, 1)
        self.yes("undone a b", "new", "c", "caabb", 1, -1, 2)
        self.yes("undone a b", "new", "c", "aabbc", 0, -1, 2)
        self.no("undone a b", "new", "c", "cab", 2, -1, 1)
        self.yes("undone a a", "found", "caaaab", "cb", 2, 1, 2)
        self.no("undone a a", "found", "caaaab", "cb", 3, 1, 2)
        self.no("undone a a", "found", "caaaab", "cb", 1, 1, 2)
        self.yes("undone a a", "found", "caaaaab", "cab", 2, 1, 2)
        self.yes("undone a a", "found", "caaaaab", "cab", 3, 1, 2)
        self.yes("undone a a", "found", "cb", "caaaab", 1, -1, 2)

    def test_alike(self):
        self.yes("alike b a", "found", "cbbbc", "caaac", 1, 1, 3)
        self.yes("alike b a", "found", "cbbbc", "cbaac", 2, 1, 2)
        self.no("alike b a", "found", "cbbbc", "cbaac", 3, 1, 2)
        self.no("alike b a", "found", "cbbb", "caaa", 0, 1, 3)
        self.yes("alike b a", "new", "caab", "cbbb", 1, -1, 2)
        self.no("alike b a", "new", "caab", "cbbb", 1, -1, 3)

    def test_still(self):
        self.yes("still a", "new", "aaab", "ab", 0, 1, 2)
        self.yes("still a", "new", "aaab", "b", 0, 1, 3)
        self.no("still a", "new", "aaab", "", 0, 1, 4)
        self.no("still a", "new", "aaab", "aab", 1, 1, 1)
        self.no("still a", "new", "baa", "ba", 1, 1, 1)
        self.no("still a", "found", "aaab", "aab", 0, 1, 1)
        self.yes("still a", "new", "b", "aab", 0, -1, 2)
        self.yes("still a", "new", "", "aa", 0, -1, 2)
        self.no("still a", "new", "b", "ba", 1, -1, 1)
        self.no("still a", "new", "aa", "aaa", 1, -1, 1)
        self.no("still a", "found", "b", "ab", 0, -1, 1)
        self.no("still a", "found", "", "a", 0, -1, 1)

    def test_against_change_by_change(self):
        source = random.Random(180)
        for beginning in ("new", "found"):
            for sentence in every_sentence(AB):
                for word in words(AB, 5):
                    for place, way, times in itertools.product(range(len(word) + 2), (1, -1), (1, 2, 3)):
                        self.agree([sentence], beginning, word, [(0, place, way, times)])
        for _ in range(300):
            sentences = random_told(source, ABC, source.randint(1, 4))
            beginning = source.choice(["new", "found"])
            word = tuple(source.choice("abc") for _ in range(source.randint(0, 7)))
            self.agree(sentences, beginning, word, self.some_steps(source, sentences, beginning, word))

    def some_steps(self, source, sentences, beginning, word):
        """Steps of which some lead on."""
        steps = []
        for _ in range(40):
            step = (source.randrange(len(sentences)), source.randint(0, 8), source.choice([1, -1]), source.randint(1, 3))
            if walked(sentences, beginning, word, steps + [step]) is not None or source.random() < 0.01:
                steps.append(step)
        return steps[:source.randint(0, 12)]

    def agree(self, sentences, beginning, word, steps):
        letters = sentences[0].letters
        wanted = walked(sentences, beginning, word, steps)
        first = History.spelled(letters, beginning, word)
        last = History.spelled(letters, beginning, wanted or ())
        self.assertIs(is_chain(sentences, first, last, steps), wanted is not None)
        self.assertIs(is_chain(tuple(sentences), first, last, tuple(map(list, steps))), wanted is not None)
        self.assertIs(is_chain(sentences, first, last + [("a", 1)], steps), False)
        other = "found" if beginning == "new" else "new"
        self.assertIs(is_chain(sentences, first, History.spelled(letters, other, wanted or ()), steps), False)

    def test_large_times(self):
        for times in (BIG, 10 ** 200):
            runs = [("a", BIG)] * 1
            first = History(AB, "found", runs + [("b", BIG)])
            self.assertIs(is_chain(told(AB, "undone a b"), first, History(AB, "found"), [(0, BIG - 1, 1, BIG)]), True)
            self.assertIs(is_chain(told(AB, "undone a b"), first, History(AB, "found"), [(0, BIG, 1, BIG)]), False)
            empty = History(AB, "found")
            there = [(0, 0, -1, times), (0, times - 1, 1, times)]
            self.assertIs(is_chain(told(AB, "undone a b"), empty, empty, there), True)
            self.assertIs(is_chain(told(AB, "undone a b"), empty, empty, [there[0], (0, times, 1, times)]), False)
            self.assertIs(is_chain(told(AB, "undone a a"), empty, empty, there), True)
            self.assertIs(is_chain(told(AB, "idle a"), empty, empty, [(0, 0, -1, times), (0, 0, 1, times)]), True)
            self.assertIs(is_chain(told(AB, "kept a b"), first, first, [(0, 5, -1, times), (0, 5, 1, times)]), True)
            there = [(0, BIG, -1, times), (0, BIG + times - 1, 1, times)]
            self.assertIs(is_chain(told(AB, "over a b"), first, first, there), True)
            self.assertIs(is_chain(told(AB, "alike b a"), first, first, [(0, BIG, 1, times), (0, BIG, -1, times)]),
                          times == BIG)

    def test_many_runs_on_the_way(self):
        empty = History(AB, "found")
        ahead = [(0, 2 * place, -1, 1) for place in range(700)]
        back = [(0, 2 * place, 1, 1) for place in range(699, -1, -1)]
        self.assertIs(is_chain(told(AB, "undone a b"), empty, empty, ahead + back), True)
        self.assertIs(is_chain(told(AB, "undone a b"), empty, empty, ahead + back[1:]), False)

    def test_what_is_no_step_or_no_list(self):
        given = told(AB, "idle a", "kept a b")
        first, last = spelled(AB, "found", "aab"), spelled(AB, "found", "ab")
        good = (0, 0, 1, 1)
        self.assertIs(is_chain(given, first, last, [good]), True)
        self.assertIs(is_chain(given, first, last, [[0, 0, 1, 1]]), True)
        for value in NO_STEPS:
            self.assertIs(is_chain(given, first, last, [value]), False)
            self.assertIs(is_chain(given, first, last, [good, value]), False)
            self.assertIs(is_chain(given, first, last, (value, good)), False)
        self.assertIs(is_chain(given, first, last, [(2, 0, 1, 1)]), False)
        for value in STRANGE + [good, {0: good}, "abcd"]:
            self.assertIs(is_chain(given, first, last, value), False)
        for value in [v for v in STRANGE if not isinstance(v, (list, tuple)) or v]:
            self.assertIs(is_chain(given, first, first, value), False)

    def test_other_letters(self):
        history, other = History(AB, "found"), History(ABC, "found")
        self.assertIs(is_chain([], history, other, []), False)
        self.assertIs(is_chain([], other, other, []), True)
        self.assertIs(is_chain(told(AB, "idle a"), other, other, []), False)
        self.assertIs(is_chain(told(ABC, "idle a") + told(AB, "idle a"), other, other, []), False)
        self.assertIs(is_chain(told(Letters(["b", "a"]), "idle a"), history, history, []), False)
        self.assertIs(is_chain(told(Letters(["a", "b"]), "idle a"), history, history, []), True)


class IsRowsTest(Case):
    def setUp(self):
        self.given = told(ABC, "undone a b", "undone b c", "kept c c", "undone a b")
        self.rows = list(close(ABC, self.given).rows)
        self.later = range(len(self.given), len(self.rows))

    def asked(self, rows, given=None):
        answer = is_rows(ABC, self.given if given is None else given, rows)
        self.assertIsInstance(answer, bool)
        return answer

    def bent(self, index, *parts):
        return self.rows[:index] + [tuple(parts)] + self.rows[index + 1:]

    def test_good_rows(self):
        self.assertTrue(self.later)
        self.assertTrue(self.asked(self.rows))
        self.assertTrue(self.asked(tuple(self.rows), tuple(self.given)))
        self.assertTrue(self.asked([[sentence, [list(step) for step in steps]] for sentence, steps in self.rows]))
        for many in range(len(self.given), len(self.rows)):
            self.assertTrue(self.asked(self.rows[:many]))
        self.assertTrue(is_rows(AB, [], []))
        self.assertTrue(is_rows(AB, [], ()))

    def test_told_rows_bent(self):
        for many in range(len(self.given)):
            self.assertFalse(self.asked(self.rows[:many]))
            self.assertFalse(self.asked(self.bent(many, Sentence(ABC, "idle", "b"), ())))
            self.assertFalse(self.asked(self.bent(many, self.rows[many][0], ((0, 0, 1, 1),))))
            self.assertFalse(self.asked(self.bent(many, self.rows[many][0], None)))
            self.assertFalse(self.asked(self.bent(many, self.rows[many][0], {})))
            self.assertFalse(self.asked(self.bent(many, self.rows[many][0], "")))
        self.assertFalse(self.asked([self.rows[1], self.rows[0]] + self.rows[2:]))
        self.assertFalse(self.asked(self.rows + [self.rows[0]]))
        self.assertFalse(self.asked(self.rows, self.given + told(ABC, "idle a")))
        self.assertFalse(self.asked(self.rows, self.given[:-1]))
        self.assertFalse(self.asked([], [Sentence(ABC, "idle", "a")]))

    def test_later_rows_bent(self):
        for index in self.later:
            sentence, steps = self.rows[index]
            for other in [(), steps[1:], steps[:-1], steps[::-1], steps + steps, None, 1, "", {}]:
                self.assertFalse(self.asked(self.bent(index, sentence, other)))
            for value in NO_STEPS:
                self.assertFalse(self.asked(self.bent(index, sentence, steps + (value,))))
            for at in range(len(steps)):
                row, place, way, times = steps[at]
                for step in [(row, place + 1, way, times), (row, place, -way, times), (row, place, way, times + 1),
                             (index, place, way, times), (index + 1, place, way, times)]:
                    self.assertFalse(self.asked(self.bent(index, sentence, steps[:at] + (step,) + steps[at + 1:])))
            back = tuple((row, place, -way, times) for row, place, way, times in steps[::-1])
            self.assertFalse(self.asked(self.bent(index, sentence, back)))

    def test_a_row_must_not_use_itself_or_later_rows(self):
        given = told(AB, "kept a b")
        wrong = [(given[0], ()), (Sentence(AB, "idle", "a"), ((1, 0, 1, 1),))]
        self.assertFalse(is_rows(AB, given, wrong))
        wrong = [(given[0], ()), (Sentence(AB, "idle", "a"), ((2, 0, 1, 1),)),
                 (Sentence(AB, "idle", "a"), ((1, 0, 1, 1),))]
        self.assertFalse(is_rows(AB, given, wrong))
        right = [(given[0], ()), (given[0], ((0, 0, 1, 1),)), (given[0], [[1, 0, 1, 1]])]
        self.assertTrue(is_rows(AB, given, right))

    def test_other_values(self):
        for value in STRANGE + [self.rows[0], dict(enumerate(self.rows)), self.given[0]]:
            self.assertFalse(self.asked(value))
            self.assertFalse(self.asked([value]))
            self.assertFalse(self.asked(self.rows + [value]))
            self.assertFalse(self.asked(self.bent(1, value, ())))
            if value not in ([], ()):
                self.assertFalse(is_rows(AB, [], value))
        self.assertFalse(self.asked(self.rows + [(self.given[0],)]))
        self.assertFalse(self.asked(self.rows + [(self.given[0], ((0, 0, 1, 1),), 0)]))
        self.assertFalse(self.asked(self.bent(0, Limit(ABC, "always", ["x"]), ())))

    def test_other_letters(self):
        given = told(AB, "idle a")
        rows = close(AB, given).rows
        self.assertTrue(is_rows(AB, given, rows))
        self.assertFalse(is_rows(ABC, given, rows))
        self.assertFalse(is_rows(ABC, [], [(given[0], ())]))
        self.assertFalse(is_rows(ABC, told(ABC, "idle a"), rows))


class ChainTest(Case):
    def test_nothing_to_do(self):
        closing = close(AB, told(AB, "undone a b"))
        for history in (History(AB, "new"), History(AB, "found", [("b", BIG), ("a", BIG)])):
            self.assertEqual(chain(closing, history), ())

    def some(self, source, letters, runs, counts):
        closing = close(letters, random_told(source, letters, source.randint(0, 6)))
        return closing, History(letters, source.choice(["new", "found"]), random_runs(source, letters, runs, counts))

    def test_chain_change_by_change(self):
        source = random.Random(181)
        for _ in range(300):
            closing, history = self.some(source, source.choice([AB, ABC, ABCD]), source.randint(0, 8), (1, 2, 3, 4))
            steps = chain(closing, history)
            self.assertIsInstance(steps, tuple)
            self.assertTrue(all(isinstance(step, tuple) and step[2] == 1 for step in steps))
            sentences = [sentence for sentence, _ in closing.rows]
            form = struck(closing, history)
            self.assertEqual(walked(sentences, history.beginning, history.word(), steps), form.word())
            self.check_unfolded(closing, history, form, steps)

    def check_unfolded(self, closing, first, last, steps):
        size = length(closing, steps)
        flat = unfolded(closing, steps, most=10000)
        self.assertIsInstance(flat, tuple)
        self.assertEqual(len(flat), size)
        self.assertTrue(all(isinstance(step, tuple) and step[3] == 1 and step[0] < len(closing.told)
                            for step in flat))
        self.assertEqual(walked(closing.told, first.beginning, first.word(), flat), last.word())
        self.assertTrue(is_chain(closing.told, first, last, flat))

    def test_few_steps_for_each_run(self):
        source = random.Random(182)
        for _ in range(200):
            closing, history = self.some(source, source.choice([AB, ABC, ABCD]), 400, (1, 2, BIG - 1, BIG))
            steps = chain(closing, history)
            self.assertLessEqual(len(steps), 5 * len(history.runs))
            sentences = [sentence for sentence, _ in closing.rows]
            self.assertTrue(is_chain(sentences, history, struck(closing, history), steps))

    def test_why_change_by_change(self):
        source = random.Random(183)
        seen = {True: 0, False: 0}
        for _ in range(600):
            closing, one = self.some(source, source.choice([AB, ABC]), source.randint(0, 5), (1, 2))
            other = History(one.letters, source.choice(["new", "found"]),
                            random_runs(source, one.letters, source.randint(0, 5), (1, 2)))
            are_same = struck(closing, one) == struck(closing, other)
            seen[are_same] += 1
            steps = why(closing, one, other)
            if not are_same:
                self.assertIsNone(steps)
                continue
            self.assertTrue(isinstance(steps, tuple) and all(isinstance(step, tuple) for step in steps))
            sentences = [sentence for sentence, _ in closing.rows]
            self.assertEqual(walked(sentences, one.beginning, one.word(), steps), other.word())
            self.check_unfolded(closing, one, other, steps)
        self.assertGreater(min(seen.values()), 50)

    def test_why_with_large_counts(self):
        source = random.Random(184)
        for _ in range(100):
            closing, history = self.some(source, source.choice([AB, ABC, ABCD]), 200, (1, 2, BIG - 1, BIG))
            form = struck(closing, history)
            sentences = [sentence for sentence, _ in closing.rows]
            for one, other in ((history, form), (form, history), (history, history)):
                steps = why(closing, one, other)
                self.assertLessEqual(len(steps), 5 * (len(one.runs) + len(other.runs)))
                self.assertTrue(is_chain(sentences, one, other, steps))

    def test_beginnings_are_never_one(self):
        closing = close(AB, told(AB, "still a"))
        self.assertIsNone(why(closing, History(AB, "new"), History(AB, "found")))
        self.assertIsNone(why(closing, History(AB, "found", [("a", 1)]), History(AB, "found")))
        self.assertEqual(len(why(closing, History(AB, "new", [("a", BIG)]), History(AB, "new"))), 1)

    def test_other_letters(self):
        closing = close(AB, [])
        for letters in (ABC, Letters(["b", "a"])):
            here, there = History(AB, "new"), History(letters, "found")
            self.fails(OtherLetters, lambda: chain(closing, there))
            self.fails(OtherLetters, lambda: why(closing, here, there))
            self.fails(OtherLetters, lambda: why(closing, there, here))


class LengthTest(Case):
    def setUp(self):
        self.given = told(ABC, "undone a b", "undone b c", "kept c c")
        self.closing = close(ABC, self.given)

    def own_length(self, closing, steps):
        return sum(times * (self.own_length(closing, closing.rows[row][1]) or 1) for row, _, _, times in steps)

    def test_told_rows_count_one(self):
        self.assertEqual(length(self.closing, []), 0)
        self.assertEqual(length(self.closing, ()), 0)
        self.assertEqual(length(self.closing, [(0, 0, 1, 1), [1, 5, -1, 3], (2, 7, 1, BIG)]), BIG + 4)

    def test_later_rows_count_as_their_chains(self):
        self.assertGreater(len(self.closing.rows), 3)
        for row in range(3, len(self.closing.rows)):
            size = self.own_length(self.closing, self.closing.rows[row][1])
            for way in (1, -1):
                self.assertEqual(length(self.closing, [(row, 3, way, 1)]), size)
                self.assertEqual(length(self.closing, [(row, 3, way, 10 ** 40), (0, 0, 1, 1)]), size * 10 ** 40 + 1)

    def test_bad_steps(self):
        good = (0, 0, 1, 1)
        for value in NO_STEPS + [(len(self.closing.rows), 0, 1, 1)]:
            self.fails(BadStep, lambda: length(self.closing, [value]), 0)
            self.fails(BadStep, lambda: length(self.closing, (good, good, value, None)), 2)
            self.fails(BadStep, lambda: unfolded(self.closing, [good, value, good]), 1)
            self.fails(BadStep, lambda: unfolded(self.closing, [(0, 0, 1, BIG), value], most=0), 1)
        self.fails(BadStep, lambda: length(close(AB, []), [good]), 0)

    def test_unfolded_times(self):
        for text in ("idle a", "kept a b", "over a b", "undone a b", "alike b a", "still a"):
            closing = close(AB, told(AB, text))
            for way in (1, -1):
                moved = DRIFT[text.split()[0], way]
                self.assertEqual(unfolded(closing, [[0, 9, way, 4]]),
                                 tuple((0, 9 + turn * moved, way, 1) for turn in range(4)))

    def test_unfolded_later_rows(self):
        for row in range(3, len(self.closing.rows)):
            flat = unfolded(self.closing, [(row, 0, 1, 1)])
            sentence = self.closing.rows[row][0]
            left, right = sentence.left, sentence.right
            self.assertEqual(walked(self.given, left.beginning, left.word(), flat), right.word())
            moved = unfolded(self.closing, [(row, 4, 1, 1)])
            self.assertEqual(moved, tuple((at, place + 4, way, 1) for at, place, way, _ in flat))
            back = unfolded(self.closing, [(row, 0, -1, 1)])
            self.assertEqual(back, tuple((at, place, -way, 1) for at, place, way, _ in flat[::-1]))
            self.assertEqual(walked(self.given, left.beginning, right.word(), back), left.word())

    def test_too_long(self):
        self.assertEqual(unfolded(self.closing, [], most=0), ())
        self.assertEqual(len(unfolded(self.closing, [(0, 0, -1, 1000)])), 1000)
        self.fails(TooLong, lambda: unfolded(self.closing, [(0, 0, -1, 1001)]), 1001)
        self.assertEqual(len(unfolded(self.closing, [(0, 0, -1, 10000)], most=10000)), 10000)
        self.fails(TooLong, lambda: unfolded(self.closing, [(0, 0, -1, BIG)], most=10000), BIG)
        last = len(self.closing.rows) - 1
        size = length(self.closing, [(last, 0, 1, 3)])
        self.assertEqual(len(unfolded(self.closing, [(last, 0, 1, 3)], most=size)), size)
        self.fails(TooLong, lambda: unfolded(self.closing, [(last, 0, 1, 3)], most=size - 1), size)
        self.fails(TooLong, lambda: unfolded(self.closing, [(0, 0, 1, 1)], most=0), 1)

    def test_most_by_name_only(self):
        with self.assertRaises(TypeError):
            unfolded(self.closing, [], 1000)


if __name__ == "__main__":
    unittest.main()
