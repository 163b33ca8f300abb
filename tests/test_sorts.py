import random
import unittest

from asksmore.errors import (BadBeginning, BadEnd, BadLetter, BadMenu, BadRow, BadState, OtherLetters, TooLong,
                             TooMany, TwiceTold)
from asksmore.closing import close
from asksmore.histories import History
from asksmore.letters import Letters
from asksmore.sentences import Sentence
from asksmore.sorts import Sort, struck_words
from tests.machines import (AB, ABC, is_taken, listed, own_rows, own_words, random_machine, random_sort,
                            size_of_times, times_of)
from tests.own import STRANGE, Case, own_struck, random_told, words

XY = Letters(["x", "y"])
NO_STATES = [None, True, False, -1, 12, 10 ** 31, "0", "", (), (0,), [], [0]]


class OneFormTest(Case):
    def test_random_machines(self):
        source = random.Random(1)
        for letters, states, most in ((AB, 5, 5), (AB, 3, 4), (ABC, 4, 4), (Letters(["a"]), 12, 12)):
            for missing in (0, 0.3, 0.7) * 12:
                rows, ends = random_machine(source, letters, states, missing)
                sort = Sort(letters, rows, ends)
                self.assertEqual((sort.rows, sort.ends), own_rows(rows, ends, letters, most))
                self.assertEqual(sort.states, len({0} | {state for row in sort.rows for state in (row[0], row[2])}))
                self.assertEqual(listed(sort, 4), own_words(rows, ends, letters, 4))

    def test_attributes(self):
        sort = Sort(ABC, [[0, "a", 4], (4, "c", 0), (4, "b", 4)], [4, 4])
        self.assertEqual(sort.letters, ABC)
        self.assertEqual(sort.rows, ((0, "a", 1), (1, "b", 1), (1, "c", 0)))
        self.assertEqual((sort.ends, sort.states), ((1,), 2))
        self.assertTrue(all(isinstance(row, tuple) for row in sort.rows))

    def test_rows_are_ordered_by_state_then_by_letter(self):
        sort = Sort(ABC, [(1, "c", 0), (0, "c", 1), (1, "b", 1), (0, "a", 0), (0, "b", 0)], [1])
        self.assertEqual(sort.rows, ((0, "b", 0), (0, "a", 0), (0, "c", 1), (1, "b", 1), (1, "c", 0)))

    def test_states_are_numbered_by_first_words(self):
        rows = [(0, "a", 5), (0, "b", 9), (9, "b", 3), (5, "b", 7), (5, "a", 5), (9, "a", 9), (3, "a", 3)]
        sort = Sort(AB, rows, [3, 7])
        self.assertEqual(sort.rows, ((0, "a", 1), (0, "b", 2), (1, "a", 1), (1, "b", 3), (2, "a", 2), (2, "b", 4),
                                     (4, "a", 4)))
        self.assertEqual(sort.ends, (3, 4))

    def test_the_same_words_give_one_form(self):
        source = random.Random(2)
        for _ in range(40):
            rows, ends = random_machine(source, AB, 5)
            sort = Sort(AB, rows, ends)
            names = [0] + source.sample(range(1, 12), 4)
            renamed = [(names[start], by, names[to]) for start, by, to in rows]
            self.assertEqual(Sort(AB, renamed[::-1], [names[end] for end in ends]), sort)
            # Each state but the first one is doubled, and each row leads to either of the two.
            doubled = [(start + 5 * k, by, to + 5 * source.randrange(2) if to else 0) for start, by, to in rows
                       for k in (0, 1) if start + k]
            doubled = [row for row in doubled if row[0] != 5] + [(0, by, to) for start, by, to in rows if start == 0]
            doubled = list({(start, by): (start, by, to) for start, by, to in doubled}.values())
            self.assertEqual(Sort(AB, doubled, ends + [end + 5 for end in ends if end]), sort)
            # State 11 is reached from nowhere, and state 10 leads nowhere.
            more = [(11, "a", 0), (11, "b", 11), (10, "a", 10)]
            more += [(start, by, 10) for start in range(5) for by in AB
                     if not any(row[:2] == (start, by) for row in rows)]
            self.assertEqual(Sort(AB, rows + more, ends + [11]), sort)

    def test_empty_sort_and_empty_word(self):
        for nothing in (Sort(AB, [], []), Sort(AB, [(0, "a", 1), (1, "b", 0)], []), Sort(AB, [(1, "a", 2)], [2, 1])):
            self.assertEqual((nothing.rows, nothing.ends, nothing.states), ((), (), 1))
            self.assertEqual(nothing, Sort.nothing(AB))
        for empty in (Sort(AB, [], [0]), Sort(AB, [(0, "a", 1), (0, "b", 1), (1, "a", 1)], [0])):
            self.assertEqual((empty.rows, empty.ends, empty.states), ((), (0,), 1))

    def test_long_tables_of_equal_states(self):
        sort = Sort(AB, [(state, x, (state + 1) % 12) for state in range(12) for x in AB], range(0, 12, 3))
        self.assertEqual(sort, size_of_times(AB, 3))

    def test_arguments_are_copied(self):
        rows, ends = [[0, "a", 1], [1, "b", 0]], [1]
        sort = Sort(AB, rows, ends)
        wanted = Sort(AB, [(0, "a", 1), (1, "b", 0)], [1])
        rows[0][2] = 0
        rows.append((1, "a", 1))
        ends.append(0)
        self.assertEqual(sort, wanted)
        self.assertEqual(len(rows), 3)
        self.assertIn(("a", "b", "a"), sort)
        self.assertNotIn((), sort)

    def test_equality(self):
        one = Sort(AB, [(0, "a", 1)], [1])
        self.assertEqual(one, Sort(AB, ((0, "a", 3),), (3,)))
        self.assertNotEqual(one, Sort(AB, [(0, "b", 1)], [1]))
        self.assertNotEqual(one, Sort(AB, [(0, "a", 1)], [0, 1]))
        self.assertNotEqual(one, Sort(AB, [(0, "a", 0)], [0]))
        self.assertNotEqual(one, Sort(Letters(["a"]), [(0, "a", 1)], [1]))
        self.assertNotEqual(one, Sort(Letters(["b", "a"]), [(0, "a", 1)], [1]))
        for value in STRANGE:
            self.assertFalse(one == value)
            self.assertTrue(one != value)


class SortErrorsTest(Case):
    def test_bad_row(self):
        good = (0, "a", 1)
        for value in STRANGE + [(0, "a"), [0, "a"], (0, "a", 1, 2), "0a1", (0, 1, "a"), {0: "a", 1: 1, 2: 2}]:
            self.fails(BadRow, lambda: Sort(AB, [good, value], []), 1)
            self.fails(BadRow, lambda: Sort(AB, (value, good), []), 0)
        for state in NO_STATES:
            self.fails(BadRow, lambda: Sort(AB, [good, (state, "b", 0)], []), 1)
            self.fails(BadRow, lambda: Sort(AB, [good, [0, "b", state]], []), 1)
        for letter in STRANGE + ["c", "~a", "new", ("a",)]:
            self.fails(BadRow, lambda: Sort(AB, [good, good, (0, letter, 0)], []), 2)
        self.assertEqual(Sort(AB, [(11, "b", 11), [0, "a", 11]], [11]).rows, ((0, "a", 1), (1, "b", 1)))

    def test_twice_told(self):
        self.fails(TwiceTold, lambda: Sort(AB, [(0, "a", 1), (0, "b", 1), (0, "a", 1)], []), 2)
        self.fails(TwiceTold, lambda: Sort(AB, [(0, "a", 1), [0, "a", 2], (0, "a", 3)], []), 1)
        self.fails(TwiceTold, lambda: Sort(AB, [(5, "a", 1), (5, "b", 2), (0, "a", 3), [5, "b", 3]], []), 3)
        self.assertEqual(Sort(AB, [(0, "a", 0), (0, "b", 0), (1, "a", 0)], [0]), Sort.every(AB))

    def test_bad_end(self):
        for state in NO_STATES + STRANGE[4:]:
            if state not in (0, 1) or isinstance(state, bool):
                self.fails(BadEnd, lambda: Sort(AB, [(0, "a", 1)], [0, 1, state]), 2)
                self.fails(BadEnd, lambda: Sort(AB, [(0, "a", 1)], (state, state)), 0)
        self.assertEqual(Sort(AB, [], [11, 0, 0]).ends, (0,))

    def test_two_faults(self):
        self.fails(BadRow, lambda: Sort(AB, [(0, "a", 1), (0, "a", 1), (0, "c", 1)], [12]), 2)
        self.fails(TwiceTold, lambda: Sort(AB, [(0, "a", 1), (0, "a", 1)], [12]), 1)
        self.fails(BadRow, lambda: Sort(AB, [(0, "a", 1), (12, "a", 1), (0, "c", 1)], []), 1)
        self.fails(BadEnd, lambda: Sort(AB, [(0, "a", 1)], [0, 12, -1]), 1)


class WordsTest(Case):
    def test_in(self):
        source = random.Random(3)
        for _ in range(20):
            rows, ends = random_machine(source, ABC, 4)
            sort = Sort(ABC, rows, ends)
            for word in words(ABC, 4):
                self.assertIs(word in sort, is_taken(rows, ends, word))
        every = Sort.every(AB)
        for value in STRANGE + [["a"], ("a", 1), ("a", None), "ab", ("a", "c"), ("a", ["b"]), (("a",),), ("new",)]:
            self.assertIs(value in every, value in ((), ("a",)) and isinstance(value, tuple))
        self.assertIn(("a",) * 5000, every)

    def test_not_iterated(self):
        for action in (iter, list, lambda sort: [word for word in sort]):
            self.assertRaises(TypeError, action, Sort.every(AB))
            self.assertRaises(TypeError, action, Sort.only(AB, ["a"]))

    def test_step_and_is_end(self):
        sort = Sort(ABC, [(0, "a", 1), (1, "c", 0), (1, "b", 1)], [1])
        self.assertEqual([sort.step(0, "a"), sort.step(1, "c"), sort.step(1, "b"), sort.step(0, "b")], [1, 0, 1, None])
        self.assertEqual([sort.is_end(0), sort.is_end(1)], [False, True])
        for state in NO_STATES + [2]:
            self.fails(BadState, lambda: sort.step(state, "a"), 0)
            self.fails(BadState, lambda: sort.step(state, "d"), 0)
            self.fails(BadState, lambda: sort.is_end(state), 0)
        for letter in STRANGE[:11] + STRANGE[12:] + ["new", "A"]:
            self.fails(BadLetter, lambda: sort.step(1, letter), 0)
        self.fails(BadState, lambda: Sort.nothing(AB).is_end(1), 0)
        self.assertIs(Sort.nothing(AB).is_end(0), False)

    def test_takes(self):
        source = random.Random(4)
        for _ in range(40):
            sort = random_sort(source, ABC, 5, 0.1)
            for word in words(ABC, 3):
                for beginning in ("new", "found"):
                    self.assertIs(sort.takes(History.spelled(ABC, beginning, word)), word in sort)
            for _ in range(10):
                runs = [(source.choice("abc"), source.choice((1, 2, 7, 30))) for _ in range(5)]
                word = tuple(letter for letter, count in runs for _ in range(count))
                self.assertIs(sort.takes(History(ABC, "new", runs)), word in sort)
        self.fails(OtherLetters, lambda: sort.takes(History(AB, "new")))

    def test_takes_large_counts(self):
        sort = size_of_times(AB, 7)
        rest = 10 ** 30 % 7
        self.assertTrue(sort.takes(History(AB, "found", [("a", 10 ** 30), ("b", 7 - rest)])))
        self.assertFalse(sort.takes(History(AB, "found", [("a", 10 ** 30), ("b", 8 - rest)])))
        self.assertTrue(sort.takes(History(AB, "new", [("a", 10 ** 30)] * 7)))
        tail = Sort(AB, [(0, "a", 1), (1, "a", 2), (2, "a", 3), (3, "a", 1), (3, "b", 4)], [4, 1])
        for count in (10 ** 30 - 1, 10 ** 30, 10 ** 30 - 2):
            self.assertIs(tail.takes(History(AB, "new", [("a", count), ("b", 1)])), count % 3 == 0)
            self.assertIs(tail.takes(History(AB, "new", [("a", count)])), count % 3 == 1)
        self.assertFalse(Sort.only(AB, ["a"] * 39).takes(History(AB, "new", [("a", 10 ** 30)])))
        self.assertFalse(tail.takes(History(AB, "new", [("b", 10 ** 30), ("a", 1)])))

    def test_after(self):
        source = random.Random(5)
        for _ in range(20):
            sort = random_sort(source, AB, 5)
            for word in words(AB, 3):
                after = sort.after(list(word))
                self.assertEqual(listed(after, 4), [more for more in words(AB, 4) if word + more in sort])
                self.assertEqual((after.rows, after.ends), own_rows(after.rows, after.ends, AB, 5))
            self.assertEqual(sort.after(()), sort)
        self.assertEqual(Sort.only(AB, ["a", "b"]).after(["b"]), Sort.nothing(AB))
        self.assertEqual(Sort.only(AB, ["a"] * 39).after(("a",) * 3), Sort.only(AB, ["a"] * 36))

    def test_after_errors(self):
        sort = Sort.only(AB, ["a"])
        for value in STRANGE[:11] + STRANGE[12:] + ["c"]:
            self.fails(BadLetter, lambda: sort.after(["b", "b", value, "c"]), 2)
            self.fails(BadLetter, lambda: sort.after((value,)), 0)

    def test_least(self):
        source = random.Random(6)
        for _ in range(60):
            sort = random_sort(source, ABC, 4)
            self.assertEqual(sort.least(), (listed(sort, 4) + [None])[0])
        self.assertEqual(Sort(AB, [], [0]).least(), ())
        self.assertIsNone(Sort.nothing(AB).least())
        self.assertEqual(Sort.only(AB, ["b"] * 39).least(), ("b",) * 39)

    def test_apart(self):
        source = random.Random(7)
        for _ in range(60):
            one, other = random_sort(source, ABC, 3), random_sort(source, ABC, 3)
            first = [word for word in words(ABC, 6) if (word in one) != (word in other)]
            self.assertEqual(one.apart(other), (first + [None])[0])
            self.assertEqual(other.apart(one), one.apart(other))
            self.assertEqual(one.apart(other) is None, one == other)
        self.assertEqual(Sort.every(AB).apart(Sort.every(AB) - Sort.only(AB, [])), ())
        self.assertEqual(size_of_times(AB, 11).apart(size_of_times(AB, 12)), ("a",) * 11)
        self.assertEqual(Sort.only(AB, ["b"] * 39).apart(Sort.nothing(AB)), ("b",) * 39)
        self.fails(OtherLetters, lambda: one.apart(Sort.every(AB)))


class MadeSortsTest(Case):
    def test_every_and_nothing(self):
        self.assertEqual(listed(Sort.every(ABC), 3), words(ABC, 3))
        self.assertEqual(listed(Sort.nothing(ABC), 3), [])
        self.assertEqual((Sort.every(AB).rows, Sort.every(AB).ends), (((0, "a", 0), (0, "b", 0)), (0,)))

    def test_only(self):
        for word in words(ABC, 3):
            self.assertEqual(listed(Sort.only(ABC, list(word)), 4), [word])
        self.assertEqual(Sort.only(AB, ("a",) * 39).states, 40)
        self.fails(TooLong, lambda: Sort.only(AB, ["a"] * 40), 40)
        self.fails(TooLong, lambda: Sort.only(AB, ["c"] * 41), 41)
        for value in STRANGE[:11] + STRANGE[12:] + ["c"]:
            self.fails(BadLetter, lambda: Sort.only(AB, ["a", value, value]), 1)

    def test_menus(self):
        menus = [["a", "b"], ["c"], ("b", "c", "b")]
        self.assertEqual(listed(Sort.menus(ABC, menus), 4),
                         [("b", "c", "b"), ("b", "c", "c"), ("a", "c", "b"), ("a", "c", "c")])
        self.assertEqual(Sort.menus(ABC, [("a", "a"), ["b"]]), Sort.only(ABC, ["a", "b"]))
        self.assertEqual(Sort.menus(AB, []), Sort.only(AB, []))
        self.assertEqual(Sort.menus(AB, [["a"], [], ["b"]]), Sort.nothing(AB))
        self.assertEqual(Sort.menus(AB, [["a", "b"]] * 39).number_of(39), 2 ** 39)

    def test_menus_errors(self):
        self.fails(TooLong, lambda: Sort.menus(AB, [["a"]] * 40), 40)
        self.fails(TooLong, lambda: Sort.menus(AB, [["c"]] * 41), 41)
        self.fails(TooLong, lambda: Sort.menus(AB, [[]] * 40), 40)
        for value in STRANGE[:11] + STRANGE[12:] + ["c"]:
            self.fails(BadMenu, lambda: Sort.menus(AB, [["a"], [], ["b", value], [value]]), 2)
        self.fails(BadMenu, lambda: Sort.menus(AB, [["a"], "ab"]), 1)

    def test_ending(self):
        for letter in ABC:
            self.assertEqual(listed(Sort.ending(ABC, letter), 4),
                             [word for word in words(ABC, 4) if word[-1:] == (letter,)])
        for value in STRANGE[:11] + STRANGE[12:] + ["c"]:
            self.fails(BadLetter, lambda: Sort.ending(AB, value), 0)

    def test_struck_words(self):
        source = random.Random(8)
        for _ in range(40):
            closing = close(ABC, random_told(source, ABC, source.randrange(5)))
            for beginning in ("new", "found"):
                sort = struck_words(closing, beginning)
                own = [word for word in words(ABC, 4) if own_struck(closing, beginning, word) == word]
                self.assertEqual(listed(sort, 4), own)
                self.assertEqual((sort.rows, sort.ends), own_rows(sort.rows, sort.ends, ABC, 5))
        idle = close(AB, [Sentence(AB, "idle", "a"), Sentence(AB, "still", "b")])
        self.assertEqual(struck_words(idle, "new"), Sort.only(AB, []))
        self.assertEqual(struck_words(idle, "found"), Sort(AB, [(0, "b", 0)], [0]))
        for value in STRANGE + ["newer"]:
            self.fails(BadBeginning, lambda: struck_words(idle, value))


if __name__ == "__main__":
    unittest.main()
