import unittest

from asksmore.asked import After, Same, State
from asksmore.errors import BadAnswers, BadBeginning, BadWord, TooMany
from asksmore.letters import Letters
from asksmore.sorts import Sort
from tests.machines import AB, ABC
from tests.own import STRANGE, Case

EVERY = Sort.every(AB)
NO_ANSWERS = STRANGE[:8] + STRANGE[9:] + ["Yes", "1a", "a b", "a" * 13, "", ["no"], ("no",)]
NO_LETTERS = STRANGE[:11] + STRANGE[12:] + ["c", "new", ("a",), "ab"]


class AfterTest(Case):
    def test_attributes(self):
        answers = ["yes", "no", "yes"]
        test = After("new", EVERY, answers)
        self.assertEqual((test.beginning, test.domain, test.letters, test.answers), ("new", EVERY, AB, ("no", "yes")))
        answers.append("more")
        self.assertEqual(test, After("new", EVERY, ("no", "yes")))

    def test_errors(self):
        for value in STRANGE + ["newer"]:
            self.fails(BadBeginning, lambda: After(value, EVERY, []))
        self.fails(BadAnswers, lambda: After("new", EVERY, []), 0)
        for value in NO_ANSWERS:
            self.fails(BadAnswers, lambda: After("found", EVERY, ["no", value, value]), 1)
        self.fails(TooMany, lambda: After("found", EVERY, list("abcdefg")), "answers", 7, 6)
        self.assertEqual(After("found", EVERY, list("abcdef") * 2).answers, tuple("abcdef"))

    def test_equality(self):
        test = After("new", EVERY, ["no", "yes"])
        self.assertEqual(test, After("new", ~Sort.nothing(AB), ["yes", "no"]))
        for other in (After("found", EVERY, ["no", "yes"]), After("new", Sort.only(AB, []), ["no", "yes"]),
                      After("new", EVERY, ["no"]), After("new", Sort.every(ABC), ["no", "yes"])):
            self.assertFalse(test == other)
            self.assertTrue(test != other)
        for value in STRANGE + [Same("new", EVERY, [], []), State("new", EVERY, [], [])]:
            self.assertFalse(test == value)
            self.assertTrue(test != value)


class TwoWordsTest(Case):
    def test_attributes(self):
        for kind in (Same, State):
            one, other = ["a", "b"], ["b"] * 6
            test = kind("found", EVERY, one, other)
            self.assertEqual((test.beginning, test.domain, test.letters), ("found", EVERY, AB))
            self.assertEqual((test.one, test.other), (("a", "b"), ("b",) * 6))
            one.append("a")
            other.clear()
            self.assertEqual((test.one, test.other), (("a", "b"), ("b",) * 6))
            self.assertEqual((kind("new", EVERY, (), []).one, kind("new", EVERY, (), []).other), ((), ()))

    def test_errors(self):
        for kind in (Same, State):
            for value in STRANGE + ["newer"]:
                self.fails(BadBeginning, lambda: kind(value, EVERY, ["c"] * 7, ["c"]))
            self.fails(TooMany, lambda: kind("new", EVERY, ["a"] * 7, ["b"] * 8), "letters", 7, 6)
            self.fails(TooMany, lambda: kind("new", EVERY, ["c"] * 9, ["c"]), "letters", 9, 6)
            self.fails(TooMany, lambda: kind("new", EVERY, ["a"] * 6, ("c",) * 8), "letters", 8, 6)
            for value in NO_LETTERS:
                self.fails(BadWord, lambda: kind("new", EVERY, ["a", value, value], ["c"] * 7), 0, 1)
                self.fails(BadWord, lambda: kind("new", EVERY, [value], [value]), 0, 0)
                self.fails(BadWord, lambda: kind("new", EVERY, (), ("a", "b", value)), 1, 2)

    def test_equality(self):
        for kind, wrong in ((Same, State), (State, Same)):
            test = kind("new", EVERY, ["a"], ["b"])
            self.assertEqual(test, kind("new", Sort(AB, [(0, "a", 1), (0, "b", 0), (1, "a", 0), (1, "b", 1)], [1, 0]),
                                        ("a",), ("b",)))
            for other in (kind("found", EVERY, ["a"], ["b"]), kind("new", Sort.nothing(AB), ["a"], ["b"]),
                          kind("new", EVERY, ["b"], ["b"]), kind("new", EVERY, ["a"], ["a"]),
                          kind("new", EVERY, ["b"], ["a"]), kind("new", Sort.every(Letters(["b", "a"])), ["a"], ["b"]),
                          wrong("new", EVERY, ["a"], ["b"]), After("new", EVERY, ["a"])):
                self.assertFalse(test == other)
                self.assertTrue(test != other)
            for value in STRANGE:
                self.assertFalse(test == value)


if __name__ == "__main__":
    unittest.main()
