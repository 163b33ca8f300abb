"""Points 8, 10, 11 and 17: struck forms."""

import random
import unittest

from asksmore.closing import close
from asksmore.errors import OtherLetters
from asksmore.histories import History
from asksmore.letters import Letters
from asksmore.sentences import Sentence
from asksmore.strikes import are_one, follows, struck
from tests.own import Case, changed, classes, every_sentence, own_struck, random_runs, random_told, words

AB = Letters(["a", "b"])
ABC = Letters(["a", "b", "c"])
ABCD = Letters(["a", "b", "c", "d"])
BIG = 10 ** 30


def told(letters, *texts):
    return [Sentence(letters, *text.split()) for text in texts]


class StruckTest(Case):
    def runs(self, letters, given, beginning, runs, wanted):
        form = struck(close(letters, told(letters, *given)), History(letters, beginning, runs))
        self.assertEqual(form, History(letters, beginning) + wanted)

    def test_example(self):
        steps = Letters(["up", "down"])
        closing = close(steps, [Sentence(steps, "undone", "up", "down")])
        self.assertEqual(struck(closing, History(steps, "new", [("up", 10 ** 30), ("down", 7), ("up", 2)])).runs,
                         (("up", 999999999999999999999999999995),))

    def test_each_kind(self):
        for beginning in ("new", "found"):
            self.runs(AB, ["idle a"], beginning, [("a", BIG), ("b", 2), ("a", 1), ("b", 3)], [("b", 5)])
            self.runs(AB, ["kept a b"], beginning, [("b", 3), ("a", 2), ("b", BIG), ("a", 1)], [("b", 3), ("a", 3)])
            self.runs(AB, ["kept a a"], beginning, [("a", BIG), ("b", 2), ("a", 1)], [("a", 1), ("b", 2), ("a", 1)])
            self.runs(AB, ["over a b"], beginning, [("a", BIG), ("b", 2), ("a", 1)], [("b", 2), ("a", 1)])
            self.runs(AB, ["undone a b"], beginning, [("a", 3), ("b", BIG), ("a", 2), ("b", 1)],
                      [("b", BIG - 3), ("a", 1)])
            self.runs(AB, ["undone a a"], beginning, [("b", 1), ("a", BIG), ("b", 1), ("a", 7)], [("b", 2), ("a", 1)])
            self.runs(AB, ["alike b a"], beginning, [("b", BIG), ("a", 2), ("b", 1)], [("a", BIG - 1), ("a", 4)])
        self.runs(AB, ["still a"], "new", [("a", BIG), ("b", 1), ("a", 1)], [("b", 1), ("a", 1)])
        self.runs(AB, ["still a"], "found", [("a", BIG), ("b", 1), ("a", 1)], [("a", BIG), ("b", 1), ("a", 1)])

    def test_nothing_said(self):
        source = random.Random(1)
        for _ in range(20):
            history = History(ABC, source.choice(["new", "found"]), random_runs(source, ABC, 10))
            self.assertEqual(struck(close(ABC, []), history), history)

    def test_against_one_letter_at_a_time(self):
        source = random.Random(10)
        for letters, most, times in ((AB, 6, 40), (ABC, 5, 30), (ABCD, 4, 20)):
            for _ in range(times):
                closing = close(letters, random_told(source, letters, source.randint(1, 5)))
                for beginning in ("new", "found"):
                    for word in words(letters, most):
                        form = struck(closing, History.spelled(letters, beginning, word))
                        wanted = own_struck(closing, beginning, word)
                        self.assertEqual((form.beginning, form.word()), (beginning, wanted))

    def test_is_struck_and_one_with_the_history(self):
        source = random.Random(11)
        for _ in range(25):
            given = random_told(source, ABC, source.randint(1, 4))
            closing = close(ABC, given)
            for beginning in ("new", "found"):
                found = classes(given, beginning, ABC, 5)
                forms = {}
                for word in words(ABC, 4):
                    form = struck(closing, History.spelled(ABC, beginning, word))
                    self.assertEqual(struck(closing, form), form)
                    self.check_form(closing, form)
                    forms.setdefault(found[word], form)
                    # Words that a search shows to be one have one struck form.
                    self.assertEqual(forms[found[word]], form)

    def check_form(self, closing, form):
        word = form.word()
        self.assertTrue(all(closing.least(letter) == letter for letter in word))
        self.assertTrue(all(closing.pair(x, y) is None for x, y in zip(word, word[1:])))
        self.assertFalse(word and form.beginning == "new" and closing.is_still(word[0]))

    def test_large_counts(self):
        source = random.Random(30)
        for _ in range(300):
            letters = source.choice([AB, ABC, ABCD])
            closing = close(letters, random_told(source, letters, source.randint(0, 6)))
            runs = random_runs(source, letters, source.randint(0, 400), (1, 2, BIG - 1, BIG))
            history = History(letters, source.choice(["new", "found"]), runs)
            form = struck(closing, history)
            self.assertLessEqual(len(form.runs), len(history.runs))
            self.assertLessEqual(form.size, history.size)
            self.assertEqual(struck(closing, form), form)
            self.check_pairs(closing, form)

    def check_pairs(self, closing, form):
        letters = [letter for letter, count in form.runs for _ in range(min(count, 2))]
        self.assertTrue(all(closing.pair(x, y) is None for x, y in zip(letters, letters[1:])))
        self.assertFalse(letters and form.beginning == "new" and closing.is_still(letters[0]))

    def test_four_hundred_runs(self):
        closing = close(AB, told(AB, "undone a b"))
        runs = [("a", BIG), ("b", BIG)] * 200
        self.assertEqual(struck(closing, History(AB, "new", runs)).runs, ())
        self.assertEqual(struck(closing, History(AB, "new", runs[1:] + [("a", 1)])).runs, (("b", BIG), ("a", 1)))
        closing = close(AB, told(AB, "undone b a"))
        self.assertEqual(struck(closing, History(AB, "found", runs)).runs, (("a", BIG), ("b", BIG)))
        # Struck counts may be above what may be passed.
        closing = close(AB, told(AB, "idle b"))
        self.assertEqual(struck(closing, History(AB, "found", runs)).runs, (("a", 200 * BIG),))

    def test_cut_anywhere(self):
        source = random.Random(12)
        for _ in range(200):
            letters = source.choice([AB, ABC, ABCD])
            closing = close(letters, random_told(source, letters, source.randint(0, 6)))
            history = History(letters, source.choice(["new", "found"]), random_runs(source, letters, 8))
            for size in range(history.size + 1):
                rest = [(letter, 1) for letter in history.word()[size:]]
                self.assertEqual(struck(closing, struck(closing, history.cut(size)) + rest),
                                 struck(closing, history))

    def test_other_letters(self):
        closing = close(AB, [])
        for letters in (ABC, Letters(["b", "a"]), Letters(["a"])):
            self.fails(OtherLetters, lambda: struck(closing, History(letters, "new")))
            self.fails(OtherLetters, lambda: follows(closing, Sentence(letters, "idle", "a")))
            here, there = History(AB, "new"), History(letters, "new")
            self.fails(OtherLetters, lambda: are_one(closing, here, there))
            self.fails(OtherLetters, lambda: are_one(closing, there, here))
            self.fails(OtherLetters, lambda: are_one(closing, there, there))
        self.assertEqual(struck(closing, History(Letters(["a", "b"]), "new")), History(AB, "new"))


class OneTest(Case):
    def test_behind_changes(self):
        source = random.Random(8)
        for _ in range(150):
            given = random_told(source, ABC, source.randint(1, 6))
            closing = close(ABC, given)
            beginning = source.choice(["new", "found"])
            word = tuple(source.choice("abc") for _ in range(source.randint(0, 8)))
            first = History.spelled(ABC, beginning, word)
            for _ in range(30):
                sentence, way = source.choice(given), source.choice([1, -1])
                word = changed(beginning, word, sentence, source.randint(0, len(word)), way) or word
                self.assertTrue(are_one(closing, first, History.spelled(ABC, beginning, word)))

    def test_not_one(self):
        closing = close(AB, told(AB, "undone a b", "still a"))
        new, found = History(AB, "new"), History(AB, "found")
        self.assertTrue(are_one(closing, new, new + [("a", 5)]))
        self.assertFalse(are_one(closing, found, found + [("a", 5)]))
        self.assertFalse(are_one(closing, new, found))
        self.assertTrue(are_one(closing, found, found + [("a", BIG), ("b", BIG)]))
        self.assertFalse(are_one(closing, found, found + [("a", BIG), ("b", BIG - 1)]))
        self.assertFalse(are_one(close(AB, []), new + [("a", 1)], new))

    def test_follows(self):
        source = random.Random(5)
        for letters, most, times in ((AB, 5, 40), (ABC, 5, 15)):
            for _ in range(times):
                given = random_told(source, letters, source.randint(0, 4))
                closing = close(letters, given)
                found = {beginning: classes(given, beginning, letters, most) for beginning in ("new", "found")}
                for sentence in every_sentence(letters):
                    left, right = sentence.left, sentence.right
                    wanted = found[left.beginning][left.word()] == found[left.beginning][right.word()]
                    self.assertIs(follows(closing, sentence), wanted)
                self.assertTrue(all(follows(closing, sentence) for sentence in given))


if __name__ == "__main__":
    unittest.main()
