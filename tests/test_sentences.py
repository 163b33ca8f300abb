"""Points 5, 6, 7 and 15: sentences and limits."""

import itertools
import unittest

from asksmore.errors import BadAnswers, BadKind, BadLetter, SaysNothing, TooMany
from asksmore.histories import History
from asksmore.letters import Letters
from asksmore.sentences import Limit, Sentence, answer_set
from tests.own import STRANGE, Case

AB = Letters(["a", "b"])
BA = Letters(["b", "a"])
PAIRS = ("kept", "over", "undone", "alike")


def fields(sentence):
    return sentence.kind, sentence.first, sentence.second


class SentenceTest(Case):
    def test_example(self):
        self.assertEqual([str(Sentence(AB, "alike", "a", "b")), str(Limit(AB, "behind", ["yes", "no", "yes"], "b"))],
                         ["alike b a", "behind b no yes"])

    def check(self, given, form, left, right, text):
        sentence = Sentence(AB, *given)
        self.assertEqual(sentence.letters, AB)
        self.assertEqual(fields(sentence), form)
        beginning = "new" if form[0] == "still" else "found"
        self.assertEqual(sentence.left, History.spelled(AB, beginning, list(left)))
        self.assertEqual(sentence.right, History.spelled(AB, beginning, list(right)))
        self.assertEqual(str(sentence), text)

    def test_each_kind(self):
        self.check(("idle", "a"), ("idle", "a", None), "a", "", "idle a")
        self.check(("idle", "b", None), ("idle", "b", None), "b", "", "idle b")
        self.check(("kept", "a", "b"), ("kept", "a", "b"), "ab", "a", "kept a b")
        self.check(("kept", "b", "b"), ("kept", "b", "b"), "bb", "b", "kept b b")
        self.check(("still", "b"), ("still", "b", None), "b", "", "still b")
        self.check(("over", "b", "a"), ("over", "b", "a"), "ba", "a", "over b a")
        self.check(("undone", "a", "b"), ("undone", "a", "b"), "ab", "", "undone a b")
        self.check(("undone", "a", "a"), ("undone", "a", "a"), "aa", "", "undone a a")
        self.check(("alike", "b", "a"), ("alike", "b", "a"), "b", "a", "alike b a")

    def test_one_form(self):
        self.check(("over", "a", "a"), ("kept", "a", "a"), "aa", "a", "kept a a")
        self.check(("alike", "a", "b"), ("alike", "b", "a"), "b", "a", "alike b a")
        self.assertEqual(fields(Sentence(BA, "alike", "a", "b")), ("alike", "a", "b"))
        self.assertEqual(fields(Sentence(BA, "alike", "b", "a")), ("alike", "a", "b"))

    def test_sides_are_properties(self):
        self.assertIsInstance(vars(Sentence)["left"], property)
        self.assertIsInstance(vars(Sentence)["right"], property)

    def test_bad_kinds(self):
        for kind in STRANGE + ["", "always", "fresh", "behind", "Idle", "idle ", ("idle",), ["kept"], "a"]:
            self.fails(BadKind, lambda: Sentence(AB, kind, "a"))
            self.fails(BadKind, lambda: Sentence(AB, kind, "a", "b"))
            self.fails(BadKind, lambda: Sentence(AB, kind, "z", "z"))

    def test_bad_first_letters(self):
        for value in STRANGE + ["c", "~a", "new", "found", "ab"]:
            for kind in ("idle", "still"):
                self.fails(BadLetter, lambda: Sentence(AB, kind, value), 0)
                self.fails(BadLetter, lambda: Sentence(AB, kind, value, "a"), 0)
            for kind in PAIRS:
                self.fails(BadLetter, lambda: Sentence(AB, kind, value, "a"), 0)
                self.fails(BadLetter, lambda: Sentence(AB, kind, value, value), 0)

    def test_bad_second_letters(self):
        for value in STRANGE + ["c", "~a", "new", "found", "ab"]:
            for kind in PAIRS:
                self.fails(BadLetter, lambda: Sentence(AB, kind, "a", value), 1)
        for value in STRANGE + ["a", "b", "c"]:
            if value is not None:
                for kind in ("idle", "still"):
                    self.fails(BadLetter, lambda: Sentence(AB, kind, "a", value), 1)
        for kind in PAIRS:
            self.fails(BadLetter, lambda: Sentence(AB, kind, "a"), 1)

    def test_says_nothing(self):
        self.fails(SaysNothing, lambda: Sentence(AB, "alike", "a", "a"))
        self.fails(SaysNothing, lambda: Sentence(AB, "alike", "b", "b"))
        self.fails(BadLetter, lambda: Sentence(AB, "alike", "z", "z"), 0)

    def test_equal(self):
        given = [("idle", "a"), ("idle", "b"), ("still", "a"), ("still", "b"), ("alike", "a", "b")]
        given += [(kind, x, y) for kind in ("kept", "over", "undone") for x, y in itertools.product("ab", "ab")
                  if (kind, x) != ("over", y)]
        for one, other in itertools.product(given, given):
            self.assertIs(Sentence(AB, *one) == Sentence(Letters(["a", "b"]), *other), one == other)
            self.assertIs(Sentence(AB, *one) != Sentence(AB, *other), one != other)
            self.assertFalse(Sentence(AB, *one) == Sentence(BA, *other))
        self.assertTrue(Sentence(AB, "over", "a", "a") == Sentence(AB, "kept", "a", "a"))
        self.assertTrue(Sentence(AB, "alike", "a", "b") == Sentence(AB, "alike", "b", "a"))
        sentence = Sentence(AB, "idle", "a")
        for other in ["idle a", ("idle", "a", None), None, True, 0, [], {}, AB, sentence.left,
                      Sentence(Letters(["a"]), "idle", "a"), Limit(AB, "behind", ["idle"], "a")]:
            self.assertFalse(sentence == other)
            self.assertFalse(other == sentence)


class AnswerSetTest(Case):
    def test_ordinary(self):
        self.assertEqual(answer_set(["yes", "no", "yes"]), ("no", "yes"))
        self.assertEqual(answer_set(("b", "a1", "a", "b", "a10", "a2")), ("a", "a1", "a10", "a2", "b"))
        self.assertEqual(answer_set(["new"]), ("new",))
        self.assertEqual(answer_set(["a", "abcdefghijkl", "z9"]), ("a", "abcdefghijkl", "z9"))

    def test_six_and_seven(self):
        six = ["f", "e", "d", "c", "b", "a"]
        self.assertEqual(answer_set(six * 5), ("a", "b", "c", "d", "e", "f"))
        self.fails(TooMany, lambda: answer_set(six + ["g"]), "answers", 7, 6)
        self.fails(TooMany, lambda: answer_set(["a", "b", "c", "d"] * 2 + ["e", "f", "g", "h", "i"]), "answers", 9, 6)

    def test_none(self):
        self.fails(BadAnswers, lambda: answer_set([]), 0)
        self.fails(BadAnswers, lambda: answer_set(()), 0)

    def test_first_wrong_one(self):
        for value in [v for v in STRANGE if v != "zz"] + ["A", "aB", "1", "1a", "~a", "a b", "a ", "a\n", "a" * 13,
                                                          "\u00e9", "a\u0661"]:
            self.fails(BadAnswers, lambda: answer_set([value]), 0)
            self.fails(BadAnswers, lambda: answer_set(["a", "a", value, ""]), 2)
            self.fails(BadAnswers, lambda: answer_set(list("abcdefgh") + [value]), 8)

    def test_list_is_kept_as_it_is(self):
        answers = ["b", "a"]
        answer_set(answers)
        self.assertEqual(answers, ["b", "a"])


class LimitTest(Case):
    def test_each_kind(self):
        for kind in ("always", "fresh"):
            limit = Limit(AB, kind, ["yes", "no", "no"])
            self.assertEqual((limit.letters, limit.kind, limit.answers, limit.letter), (AB, kind, ("no", "yes"), None))
            self.assertEqual(str(limit), f"{kind} no yes")
        limit = Limit(AB, "behind", ("yes",), "a")
        self.assertEqual((limit.letters, limit.kind, limit.answers, limit.letter), (AB, "behind", ("yes",), "a"))
        self.assertEqual(str(limit), "behind a yes")

    def test_answers_are_copied(self):
        answers = ["a"]
        limit = Limit(AB, "always", answers)
        answers.append("b")
        self.assertEqual(limit.answers, ("a",))

    def test_bad_kinds(self):
        for kind in STRANGE + ["", "idle", "kept", "Always", ("always",), ["fresh"], {"behind": 1}]:
            self.fails(BadKind, lambda: Limit(AB, kind, ["a"]))
            self.fails(BadKind, lambda: Limit(AB, kind, [], "z"))

    def test_bad_answers(self):
        for kind, letter in (("always", None), ("fresh", None), ("behind", "a"), ("behind", "z"), ("fresh", "a")):
            self.fails(BadAnswers, lambda: Limit(AB, kind, [], letter), 0)
            self.fails(BadAnswers, lambda: Limit(AB, kind, ["a", "", "b"], letter), 1)
            self.fails(TooMany, lambda: Limit(AB, kind, list("abcdefg"), letter), "answers", 7, 6)

    def test_bad_letters(self):
        for value in STRANGE + ["c", "~a", "new", "found"]:
            self.fails(BadLetter, lambda: Limit(AB, "behind", ["a"], value), 0)
        self.fails(BadLetter, lambda: Limit(AB, "behind", ["a"]), 0)
        for value in STRANGE + ["a", "b", "c"]:
            if value is not None:
                self.fails(BadLetter, lambda: Limit(AB, "always", ["a"], value), 0)
                self.fails(BadLetter, lambda: Limit(AB, "fresh", ["a"], value), 0)

    def test_equal(self):
        limit = Limit(AB, "behind", ["x", "y"], "a")
        self.assertTrue(limit == Limit(Letters(["a", "b"]), "behind", ["y", "x", "y"], "a"))
        self.assertFalse(limit != Limit(AB, "behind", ["y", "x"], "a"))
        for other in [Limit(BA, "behind", ["x", "y"], "a"), Limit(AB, "behind", ["x", "y"], "b"),
                      Limit(AB, "behind", ["x"], "a"), Limit(AB, "always", ["x", "y"]), str(limit), None, True, (),
                      [], {}, Sentence(AB, "idle", "a"), AB]:
            self.assertFalse(limit == other)
            self.assertFalse(other == limit)
        self.assertFalse(Limit(AB, "always", ["x"]) == Limit(AB, "fresh", ["x"]))


if __name__ == "__main__":
    unittest.main()
