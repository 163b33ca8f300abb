"""Points 4 and 14: histories."""

import random
import unittest

from asksmore.errors import BadBeginning, BadCount, BadLetter, BadPlace, BadRuns, TooLong, TooMany
from asksmore.histories import History
from asksmore.letters import Letters
from tests.own import STRANGE, Case

ABC = Letters(["a", "b", "c"])
BIG = 10 ** 30


def zigzag(many, start=0):
    """So many runs of one letter each, a and b in turn."""
    return [("ab"[(start + at) % 2], 1) for at in range(many)]


class HistoryTest(Case):
    def bad(self, error, index, runs, beginning="new"):
        self.fails(error, lambda: History(ABC, beginning, runs), index)

    def test_example(self):
        self.assertEqual((History(ABC, "new", [("a", 2), ("a", 3)]) + [("a", 1), ("b", 7)]).runs,
                         (("a", 6), ("b", 7)))

    def test_no_run(self):
        for beginning in ("new", "found"):
            for history in (History(ABC, beginning), History(ABC, beginning, []), History(ABC, beginning, ())):
                self.assertEqual(history.letters, ABC)
                self.assertEqual(history.beginning, beginning)
                self.assertEqual(history.runs, ())
                self.assertEqual(history.size, 0)
                self.assertEqual(history.last, beginning)
                self.assertEqual(history.word(), ())

    def test_ordinary(self):
        history = History(ABC, "found", [("c", 2), ["a", 1], ("c", 3)])
        self.assertEqual(history.runs, (("c", 2), ("a", 1), ("c", 3)))
        self.assertTrue(all(isinstance(run, tuple) for run in history.runs))
        self.assertEqual((history.size, history.last), (6, "c"))
        self.assertEqual(history.word(), ("c", "c", "a", "c", "c", "c"))

    def test_joined(self):
        history = History(ABC, "new", (["a", 1], ["a", 2], ("b", 1), ("b", 1), ("a", 1), ("a", 1), ("a", 1)))
        self.assertEqual(history.runs, (("a", 3), ("b", 2), ("a", 3)))
        self.assertEqual((history.size, history.last), (8, "a"))

    def test_runs_are_copied(self):
        run = ["a", 2]
        runs = [run, ("b", 1)]
        history = History(ABC, "new", runs)
        run[1] = 5
        runs.append(("c", 1))
        self.assertEqual(history.runs, (("a", 2), ("b", 1)))

    def test_counts(self):
        self.assertEqual(History(ABC, "new", [("a", 1), ("b", BIG)]).size, BIG + 1)
        for count in [0, -1, BIG + 1, -BIG, True, False, None, "1", "", (1,), [1], [], {}, {1: 1}, ABC]:
            self.bad(BadCount, 0, [("a", count)])
            self.bad(BadCount, 2, [("a", 1), ("b", 1), ["c", count], ("b", 0)])

    def test_kept_counts_above_the_bound(self):
        history = History(ABC, "new", [("a", BIG), ("a", BIG)]) + [("a", BIG), ("b", 1)]
        self.assertEqual(history.runs, (("a", 3 * BIG), ("b", 1)))
        self.assertEqual(history.size, 3 * BIG + 1)
        self.assertEqual(history.cut(3 * BIG).runs, (("a", 3 * BIG),))
        self.assertEqual((history[0], history[3 * BIG - 1], history[3 * BIG]), ("a", "a", "b"))
        self.bad(BadCount, 0, history.runs)
        self.fails(BadCount, lambda: history + history.runs, 0)

    def test_many_runs(self):
        self.assertEqual(len(History(ABC, "new", zigzag(400)).runs), 400)
        for many in (401, 402, 1000):
            self.fails(TooMany, lambda: History(ABC, "new", zigzag(many)), "runs", many, 400)
        twice = [run for run in zigzag(400) for _ in range(3)]
        self.assertEqual(History(ABC, "new", twice).runs, tuple((x, 3) for x, _ in zigzag(400)))
        self.assertEqual(History(ABC, "new", [("a", 1)] * 5000).runs, (("a", 5000),))
        self.fails(TooMany, lambda: History(ABC, "new", twice + [("c", 1)]), "runs", 401, 400)

    def test_what_is_no_run(self):
        for value in [None, True, 1, "a", "ab", "", (), [], ("a",), ["a"], ("a", 1, 1), ["a", 1, 1], {}, {"a": 1},
                      {"a": 1, "b": 2}, ABC, Letters(["a", "b"]), History(ABC, "new")]:
            self.bad(BadRuns, 0, [value])
            self.bad(BadRuns, 1, [("a", 1), value, ("z", 1)])
            self.bad(BadRuns, 2, (["a", 1], ["a", 1], value))

    def test_letters_of_runs(self):
        for value in STRANGE + ["d", "~a", "new", "found", "ab", [["a"]], {"a": {}}]:
            self.bad(BadLetter, 0, [(value, 1)])
            self.bad(BadLetter, 1, [("a", 1), [value, 1]])

    def test_beginnings(self):
        for value in STRANGE + ["New", "NEW", "new ", "found\n", "", "a", ("new",), ["new"], {"new": 1}]:
            self.fails(BadBeginning, lambda: History(ABC, value))
            self.fails(BadBeginning, lambda: History.spelled(ABC, value, ["a"]))

    def test_first_of_two_faults(self):
        self.fails(BadBeginning, lambda: History(ABC, "old", [("z", 1)]))
        self.fails(BadBeginning, lambda: History(ABC, None, zigzag(500)))
        self.bad(BadLetter, 0, [("z", 0)])
        self.bad(BadCount, 0, [("a", 0), ("z", 1)])
        self.bad(BadLetter, 0, [("z", 1), None])
        self.bad(BadRuns, 0, [None, ("z", 1), ("a", 0)])
        self.bad(BadCount, 450, zigzag(450) + [("a", 0)])
        self.bad(BadRuns, 450, zigzag(450) + ["a"])

    def test_places(self):
        history = History(ABC, "new", [("a", 2), ("b", 1), ("c", 3), ("a", 1)])
        self.assertEqual([history[place] for place in range(7)], list("aabccca"))
        for place in [-1, 7, 8, BIG, -BIG, None, True, False, "0", "", (0,), [0], {}, {0: 0}, ABC, [[1], {"a": []}]]:
            self.fails(BadPlace, lambda: history[place], place)
        for place in (0, -1, True, None):
            self.fails(BadPlace, lambda: History(ABC, "found")[place], place)
        big = History(ABC, "found", [("a", BIG), ("b", BIG)])
        self.assertEqual([big[BIG - 1], big[BIG], big[2 * BIG - 1]], ["a", "b", "b"])
        self.fails(BadPlace, lambda: big[2 * BIG], 2 * BIG)

    def test_neither_iterated_nor_measured(self):
        history = History(ABC, "new", [("a", 2)])
        for call in (iter, list, tuple, len, reversed, lambda value: "a" in value, lambda value: [*value]):
            with self.assertRaises(TypeError):
                call(history)

    def test_word(self):
        self.assertEqual(History(ABC, "new", [("a", 1999), ("b", 1)]).word(), ("a",) * 1999 + ("b",))
        self.fails(TooLong, lambda: History(ABC, "new", [("a", 2000), ("b", 1)]).word(), 2001)
        self.fails(TooLong, lambda: History(ABC, "new", [("a", BIG)]).word(), BIG)

    def test_cut(self):
        history = History(ABC, "found", [("a", 2), ("b", 1), ("c", 3)])
        for size in range(7):
            cut = history.cut(size)
            self.assertEqual(cut.word(), tuple("aabccc")[:size])
            self.assertEqual((cut.beginning, cut.letters, cut.size), ("found", ABC, size))
            self.assertEqual(cut.last, "aabccc"[size - 1] if size else "found")
            self.assertEqual(cut, History.spelled(ABC, "found", "aabccc"[:size]))
        for size in [-1, 7, BIG, None, True, False, "1", (1,), [1], ABC]:
            self.fails(BadPlace, lambda: history.cut(size), size)
        self.assertEqual(History(ABC, "new", [("a", BIG), ("b", BIG)]).cut(BIG + 5).runs, (("a", BIG), ("b", 5)))
        self.assertEqual(History(ABC, "new").cut(0), History(ABC, "new"))

    def test_add(self):
        history = History(ABC, "new", [("a", 2), ("b", 1)])
        self.assertEqual(history + [], history)
        self.assertEqual(history + (), history)
        self.assertEqual((history + [("c", 4)]).runs, (("a", 2), ("b", 1), ("c", 4)))
        self.assertEqual((history + (["b", 4], ("b", 1), ("a", 1))).runs, (("a", 2), ("b", 6), ("a", 1)))
        self.assertEqual(history.runs, (("a", 2), ("b", 1)))
        self.assertEqual((history.size, history.last), (3, "b"))
        longer = history + [("c", 4), ("a", 1)]
        self.assertEqual((longer.beginning, longer.size, longer.last, longer.letters), ("new", 8, "a", ABC))
        self.assertEqual((History(ABC, "found") + [("a", 1)]).last, "a")

    def test_add_wrong_runs(self):
        history = History(ABC, "new", [("a", 2), ("b", 1)])
        self.fails(BadRuns, lambda: history + [("a", 1), "ab"], 1)
        self.fails(BadLetter, lambda: history + [("z", 1), "ab"], 0)
        self.fails(BadCount, lambda: history + [("a", 1), ("a", 1), ("a", BIG + 1)], 2)
        full = History(ABC, "new", zigzag(400))
        self.fails(TooMany, lambda: full + [("a", 1)], "runs", 401, 400)
        self.fails(TooMany, lambda: full + zigzag(10, 1), "runs", 409, 400)
        self.assertEqual((full + [("b", 5)]).runs[-1], ("b", 6))
        self.assertEqual(len((full + [("b", 5)]).runs), 400)

    def test_equal(self):
        history = History(ABC, "new", [("a", 2), ("b", 1)])
        self.assertTrue(history == History(Letters(["a", "b", "c"]), "new", [("a", 1), ("a", 1), ["b", 1]]))
        self.assertFalse(history != History.spelled(ABC, "new", ["a", "a", "b"]))
        others = [History(Letters(["a", "b"]), "new", [("a", 2), ("b", 1)]), History(ABC, "found", history.runs),
                  History(ABC, "new", [("a", 1), ("b", 1)]), History(ABC, "new"), history.cut(2), history.runs,
                  ("a", "a", "b"), None, 3, True, "aab", [], {}, ABC]
        for other in others:
            self.assertFalse(history == other)
            self.assertFalse(other == history)
            self.assertTrue(history != other)

    def test_spelled(self):
        history = History.spelled(ABC, "found", ("a", "a", "b", "a"))
        self.assertEqual((history.runs, history.beginning), ((("a", 2), ("b", 1), ("a", 1)), "found"))
        self.assertEqual(History.spelled(ABC, "new", []), History(ABC, "new"))
        self.assertEqual(History.spelled(ABC, "new", ["a"] * 3000).runs, (("a", 3000),))
        for value in STRANGE + ["d", ("a", 1), ["a", 1]]:
            self.fails(BadLetter, lambda: History.spelled(ABC, "new", [value]), 0)
            self.fails(BadLetter, lambda: History.spelled(ABC, "new", ["a", "b", value, "z"]), 2)
        self.fails(BadBeginning, lambda: History.spelled(ABC, "old", ["z"]))
        self.fails(BadLetter, lambda: History.spelled(ABC, "new", ["a", "b"] * 300 + ["z"]), 600)
        self.fails(TooMany, lambda: History.spelled(ABC, "new", ["a", "b"] * 201), "runs", 402, 400)
        self.assertEqual(len(History.spelled(ABC, "new", ["a", "b"] * 200).runs), 400)

    def test_against_words(self):
        source = random.Random(14)
        for _ in range(300):
            one = [(source.choice("abc"), source.randint(1, 3)) for _ in range(source.randint(0, 6))]
            other = [(source.choice("abc"), source.randint(1, 3)) for _ in range(source.randint(0, 6))]
            word = tuple(x for x, count in one + other for _ in range(count))
            history = History(ABC, "new", one) + other
            self.assertEqual(history.word(), word)
            self.assertEqual(history, History.spelled(ABC, "new", word))
            self.assertEqual(history.size, len(word))
            self.assertEqual(tuple(history[place] for place in range(len(word))), word)
            size = source.randint(0, len(word))
            self.assertEqual(history.cut(size), History.spelled(ABC, "new", word[:size]))
            self.assertTrue(all(one[0] != two[0] for one, two in zip(history.runs, history.runs[1:])))


if __name__ == "__main__":
    unittest.main()
