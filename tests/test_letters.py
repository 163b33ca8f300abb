"""Points 3 and 13: letters."""

import unittest

from asksmore.errors import BadLetter, BadLetters, TooMany
from asksmore.letters import Letters
from tests.own import STRANGE, Case

TWELVE = [f"l{number}" for number in range(12)]
BAD = ["", "~", "~~a", "a~", "new", "found", "~new", "~found", "1", "1a", "~1a", "A", "aB", "~A", "a b", " a",
       "a ", "a\n", "a-b", "a_b", "abcdefghijklm", "~abcdefghijklm", "\u00e9", "a\u00e9", "a\u0661", "\uff41"]
NO_STRINGS = [None, True, False, 0, 1, (), ("a",), [], ["a"], {}, {"a": 1}, Letters(["a"])]


class LettersTest(Case):
    def bad(self, words, index):
        self.fails(BadLetters, lambda: Letters(words), index)

    def test_example(self):
        self.assertEqual(Letters(["put", "~put", "clear"]).rank("~put"), 1)

    def test_ordinary(self):
        letters = Letters(["put", "~put", "clear"])
        self.assertEqual(letters.words, ("put", "~put", "clear"))
        self.assertIsInstance(letters.words, tuple)
        self.assertEqual(list(letters), ["put", "~put", "clear"])
        self.assertEqual([letters.rank(word) for word in letters], [0, 1, 2])
        self.assertEqual(len(letters), 3)

    def test_one_and_twelve(self):
        self.assertEqual(len(Letters(["a"])), 1)
        self.assertEqual(Letters(TWELVE).words, tuple(TWELVE))
        self.assertEqual(Letters(TWELVE).rank("l11"), 11)

    def test_none_and_thirteen(self):
        self.bad([], 0)
        self.bad((), 0)
        for words in (TWELVE + ["z"], [None] * 13, ["a"] * 20):
            self.fails(TooMany, lambda: Letters(words), "letters", len(words), 12)

    def test_good_words(self):
        for word in ["a", "z", "a1", "z0", "abcdefghijkl", "~abcdefghijkl", "a23456789012", "new1", "newfound",
                     "found0", "~a", "ne", "fo", "deed", "ask"]:
            self.assertEqual(Letters([word]).words, (word,))
            self.assertIn(word, Letters(["x", word]))

    def test_bad_words_at_each_place(self):
        for word in BAD + NO_STRINGS:
            self.bad([word], 0)
            self.bad([word, "a", "b"], 0)
            self.bad(["a", word, "b"], 1)
            self.bad(["a", "b", word], 2)
            self.bad(tuple(TWELVE[:11]) + (word,), 11)

    def test_repeated(self):
        self.bad(["a", "a"], 1)
        self.bad(["a", "b", "c", "b"], 3)
        self.bad(["~a", "a", "~a"], 2)

    def test_first_of_two_faults(self):
        self.bad(["a", "a", "B"], 1)
        self.bad(["a", "B", "a"], 1)
        self.bad([None, "a", "a"], 0)

    def test_list_is_copied(self):
        words = ["a", "b"]
        letters = Letters(words)
        words.append("c")
        words[0] = "z"
        self.assertEqual(letters.words, ("a", "b"))
        self.assertEqual(words, ["z", "b", "c"])

    def test_tuple(self):
        self.assertEqual(Letters(("a", "b")), Letters(["a", "b"]))

    def test_rank_of_no_letter(self):
        letters = Letters(["a", "b"])
        for value in BAD + NO_STRINGS + STRANGE + ["c", "~a", 0, "ab"]:
            self.fails(BadLetter, lambda: letters.rank(value), 0)

    def test_contains(self):
        letters = Letters(["a", "~b"])
        self.assertTrue("a" in letters and "~b" in letters)
        for value in BAD + NO_STRINGS + STRANGE + ["b", "~a", letters]:
            self.assertIs(value in letters, False)

    def test_equal(self):
        self.assertTrue(Letters(["a", "b"]) == Letters(("a", "b")))
        self.assertFalse(Letters(["a", "b"]) != Letters(["a", "b"]))
        for other in [Letters(["b", "a"]), Letters(["a"]), Letters(["a", "b", "c"]), ("a", "b"), ["a", "b"], "ab",
                      None, True, 2, {"a": 0, "b": 1}]:
            self.assertFalse(Letters(["a", "b"]) == other)
            self.assertFalse(other == Letters(["a", "b"]))
            self.assertTrue(Letters(["a", "b"]) != other)

    def test_iterated_twice(self):
        letters = Letters(["a", "b"])
        self.assertEqual([(x, y) for x in letters for y in letters],
                         [("a", "a"), ("a", "b"), ("b", "a"), ("b", "b")])


if __name__ == "__main__":
    unittest.main()
