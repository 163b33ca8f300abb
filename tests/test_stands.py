import random
import unittest

from asksmore.closing import close
from asksmore.errors import BadBeginning, BadLetter, BadStand, BadWord, NotLive, OtherLetters, TooLong, TooMany
from asksmore.histories import History
from asksmore.letters import Letters
from asksmore.sentences import Sentence
from asksmore.stands import Stands
from asksmore.strikes import struck
from tests.machines import AB, ABC, live_of
from tests.own import STRANGE, Case, every_sentence, own_struck, random_runs, random_told, words

DEEDS = Letters(["push", "pop"])
STACK = close(DEEDS, [Sentence(DEEDS, "undone", "push", "pop"), Sentence(DEEDS, "still", "pop")])
NO_LETTERS = STRANGE[:11] + STRANGE[12:] + ["c", "new", ("a",), "ab"]


def own_end(closing, beginning, word, one, other):
    """Whether two words lead behind a word to one struck form, and the tops, by striking."""
    first, second = [own_struck(closing, beginning, tuple(word) + tuple(more)) for more in (one, other)]
    return first == second, ((beginning,) + first)[-1], ((beginning,) + second)[-1]


def ends_read(stands, beginning, word):
    """What stands end with when a struck word is read from its last letter to its first one."""
    stand = 0
    for letter in word[::-1]:
        stand = stands.step(stand, letter)
    return stands.end(stand, beginning)


def some_words(source, letters):
    """Two words of up to six letters that often are nearly the same."""
    one = tuple(source.choice(letters.words) for _ in range(source.randrange(7)))
    if source.random() < 0.5:
        return one, tuple(source.choice(letters.words) for _ in range(source.randrange(7)))
    at = source.randrange(len(one) + 1)
    return one, (one[:at] + (source.choice(letters.words),) * source.randrange(3) + one[at + source.randrange(2):])[:6]


class StandsTest(Case):
    def check(self, closing, one, other, most):
        """Compare the stands of two words with striking, behind every struck history up to some size."""
        stands = Stands(closing, list(one), other)
        for beginning in ("new", "found"):
            for word in words(live_of(closing), most):
                if own_struck(closing, beginning, word) == word:
                    end = ends_read(stands, beginning, word)
                    self.assertEqual(end, own_end(closing, beginning, word, one, other))
                    self.assertEqual(stands.walk(History.spelled(closing.letters, beginning, word)), end)
                    self.assertIsInstance(end, tuple)
                    self.assertIsInstance(end[0], bool)

    def test_short_words(self):
        source = random.Random(1)
        told = [[]] + [[sentence] for sentence in every_sentence(AB)] + [random_told(source, AB, 2) for _ in range(10)]
        for sentences in told:
            closing = close(AB, sentences)
            for one in words(AB, 2):
                for other in words(AB, 2):
                    self.check(closing, one, other, 4)

    def test_long_words(self):
        source = random.Random(2)
        for _ in range(120):
            letters = source.choice((AB, ABC))
            closing = close(letters, random_told(source, letters, source.randrange(5), ("undone", "over", "kept", "still",
                                                                                        "undone", "alike")))
            one, other = some_words(source, letters)
            self.check(closing, one, other, 6 if letters == AB else 4)

    def test_histories_that_are_not_struck(self):
        source = random.Random(3)
        for _ in range(60):
            closing = close(ABC, random_told(source, ABC, source.randrange(5)))
            one, other = some_words(source, ABC)
            stands = Stands(closing, one, other)
            for beginning in ("new", "found"):
                for word in words(ABC, 3):
                    self.assertEqual(stands.walk(History.spelled(ABC, beginning, word)),
                                     own_end(closing, beginning, word, one, other))
                history = History(ABC, beginning, random_runs(source, ABC, 12))
                first, second = [struck(closing, history + [(x, 1) for x in more]) for more in (one, other)]
                self.assertEqual(stands.walk(history), (first == second, first.last, second.last))

    def test_equal_only_behind_some_histories(self):
        letters = Letters(["a", "b", "c", "d"])
        closing = close(letters, [Sentence(letters, "undone", "a", "c"), Sentence(letters, "undone", "b", "d")])
        stands = Stands(closing, ["c", "a"], [])
        for word, wanted in (((), (False, "a", "found")), (("a",), (True, "a", "a")), (("b",), (False, "a", "b")),
                             (("b", "a"), (True, "a", "a")), (("c", "b"), (False, "a", "b"))):
            self.assertEqual(stands.walk(History.spelled(letters, "found", word)), wanted)
        # The letter that stays ahead of the one word is the end of what is left of the other one.
        stands = Stands(closing, ["d"], ["d", "c", "a", "b", "d"])
        self.assertEqual(stands.walk(History.spelled(letters, "found", ["a", "b"])), (True, "a", "a"))
        self.assertEqual(stands.walk(History.spelled(letters, "found", ["b", "b"])), (False, "b", "a"))
        stands = Stands(closing, ["b", "b", "b"], ["c", "c", "d", "b", "b", "b"])
        for many in range(4):
            self.assertEqual(stands.walk(History(letters, "found", [("b", 1)] + ([("a", many)] if many else []))),
                             own_end(closing, "found", ("b",) + ("a",) * many, stands.one, stands.other))

    def test_words_with_inverses(self):
        letters = Letters(["a", "a1", "b", "b1", "x"])
        pairs = [("a", "a1"), ("a1", "a"), ("b", "b1"), ("b1", "b")]
        closing = close(letters, [Sentence(letters, "undone", x, y) for x, y in pairs])
        source = random.Random(4)
        inverse = dict(pairs)
        outcomes = set()
        for _ in range(80):
            one = tuple(source.choice(letters.words) for _ in range(source.randrange(3)))
            head = tuple(source.choice(letters.words[:4]) for _ in range(source.randrange(1, 4)))
            # Behind the letters of the head the other word leads to some of them and the first word.
            other = tuple(inverse[letter] for letter in head[::-1]) + head[source.randrange(len(head) + 1):] + one
            stands = Stands(closing, one, other[:6])
            for word in words(letters, 2) + [first + head for first in words(letters, 2)]:
                form = own_struck(closing, "found", word)
                wanted = own_end(closing, "found", word, one, other[:6])
                self.assertEqual(ends_read(stands, "found", form), wanted)
                self.assertEqual(stands.walk(History.spelled(letters, "new", word))[0], wanted[0])
                outcomes.add(wanted[0])
        self.assertEqual(outcomes, {True, False})

    def test_letters_that_stay_ahead_of_one_word(self):
        letters = Letters(["a", "b", "c", "d", "x", "y"])
        closing = close(letters, [Sentence(letters, "undone", "a", "c"), Sentence(letters, "undone", "b", "d")])
        # The letters b, a stay ahead of x; ahead of the other word they go, but what is left is another word.
        for one, other in ((("x",), ("c", "d", "b", "x")), (("x",), ("c", "d", "y", "b", "x")),
                           (("y", "x"), ("c", "d", "b", "a", "y", "x")), (("x",), ("c", "d", "b", "a", "x")),
                           (("x", "y"), ("c", "d", "a", "x", "y")), ((), ("c", "b", "a")), ((), ("c", "d", "b", "a"))):
            for first, second in ((one, other), (other, one)):
                stands = Stands(closing, first, second)
                for word in words("abxy", 4):
                    self.assertEqual(ends_read(stands, "found", word), own_end(closing, "found", word, first, second))

    def test_letters_that_go_one_after_the_other(self):
        letters = Letters(["z", "a", "b", "c"])
        closing = close(letters, [Sentence(letters, "kept", "z", "a"), Sentence(letters, "over", "z", "b"),
                                  Sentence(letters, "undone", "z", "c")])
        for one in words("abc", 3):
            for other in (("b",), ("a",), (), ("a", "a", "c", "b")):
                stands = Stands(closing, one, other)
                for word in words("za", 3):
                    if own_struck(closing, "found", word) == word:
                        self.assertEqual(ends_read(stands, "found", word), own_end(closing, "found", word, one, other))

    def test_attributes(self):
        one, other = ["pop", "pop"], ("push",)
        stands = Stands(STACK, one, other)
        one.append("push")
        self.assertIs(stands.closing, STACK)
        self.assertEqual((stands.one, stands.other), (("pop", "pop"), ("push",)))
        self.assertIsInstance(stands.size, int)
        self.assertGreaterEqual(stands.size, 1)
        for stand in range(stands.size):
            for letter in DEEDS:
                self.assertIn(stands.step(stand, letter), range(stands.size))
            self.assertEqual(len(stands.end(stand, "new")), 3)
        again = Stands(STACK, ["pop", "pop"], ["push"])
        self.assertEqual([[stands.step(stand, letter) for letter in DEEDS] for stand in range(stands.size)],
                         [[again.step(stand, letter) for letter in DEEDS] for stand in range(again.size)])

    def test_large_counts(self):
        stands = Stands(STACK, ["pop"], [])
        many = 10 ** 30
        history = History(DEEDS, "new", [("push", many), ("pop", many - 1)])
        self.assertEqual(stands.walk(history), (False, "new", "push"))
        self.assertEqual(stands.walk(history + [("pop", many)]), (True, "new", "new"))
        self.assertEqual(stands.walk(History(DEEDS, "found", [("push", many), ("pop", many)])),
                         (False, "pop", "found"))
        self.assertEqual(stands.walk(History(DEEDS, "new", [("push", 2000)])), (False, "push", "push"))
        self.fails(TooLong, lambda: stands.walk(History(DEEDS, "new", [("push", 2001)])), 2001)
        self.fails(TooLong, lambda: stands.walk(History(DEEDS, "new", [("push", many)])), many)
        self.assertEqual(stands.walk(History(DEEDS, "new", [("push", 2001), ("pop", 1)])), (False, "push", "push"))

    def test_example(self):
        stands = Stands(STACK, ["pop"], [])
        self.assertEqual([stands.end(0, "new"), stands.end(stands.step(0, "push"), "new")],
                         [(True, "new", "new"), (False, "new", "push")])


class StandsErrorsTest(Case):
    def test_words(self):
        self.fails(TooMany, lambda: Stands(STACK, ["a"] * 7, ["push"] * 8), "letters", 7, 6)
        self.fails(TooMany, lambda: Stands(STACK, ["pop"] * 6, ("a",) * 8), "letters", 8, 6)
        for value in NO_LETTERS:
            self.fails(BadWord, lambda: Stands(STACK, ["pop", value, value], ["a"] * 7), 0, 1)
            self.fails(BadWord, lambda: Stands(STACK, (), ("pop", "pop", value)), 1, 2)
        self.assertEqual(Stands(STACK, ["pop"] * 6, ["push"] * 6).walk(History(DEEDS, "new")), (False, "new", "push"))

    def test_stands_and_letters(self):
        closing = close(ABC, [Sentence(ABC, "idle", "c"), Sentence(ABC, "alike", "a", "b")])
        stands = Stands(closing, ["a", "c"], ["b", "b"])
        for value in [None, True, False, -1, stands.size, 10 ** 31, "0", "", (), (0,), [], [0]]:
            self.fails(BadStand, lambda: stands.step(value, "zz"), value)
            self.fails(BadStand, lambda: stands.end(value, "zz"), value)
        for stand in (0, stands.size - 1):
            for value in STRANGE[:11] + STRANGE[12:] + ["d", "new"]:
                self.fails(BadLetter, lambda: stands.step(stand, value), 0)
            for letter in ("a", "c"):
                self.fails(NotLive, lambda: stands.step(stand, letter), 0)
            for value in STRANGE + ["newer"]:
                self.fails(BadBeginning, lambda: stands.end(stand, value))
            self.assertEqual(len(stands.end(stand, "found")), 3)

    def test_other_letters(self):
        stands = Stands(STACK, [], ["pop"])
        self.fails(OtherLetters, lambda: stands.walk(History(AB, "new", [("a", 10 ** 30)])))


if __name__ == "__main__":
    unittest.main()
