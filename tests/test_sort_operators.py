import random
import unittest

from asksmore.errors import BadNumber, OtherLetters, TooMany
from asksmore.letters import Letters
from asksmore.sorts import Sort
from tests.machines import (AB, ABC, listed, own_repeated_size, own_rows, own_sum_size, random_sort, size_of_times,
                            times_of)
from tests.own import Case, words

NO_TIMES = [None, True, False, -1, 13, 10 ** 31, "2", "", (), (2,), [], [2]]
XY = Letters(["x", "y"])


def letters_of(letter, many):
    """The sort of the word of so many times one letter."""
    return Sort.only(AB, [letter] * many)


class OperatorTest(Case):
    def is_right(self, sort, is_wanted, most=4):
        """Whether a sort has the words that are wanted, in its one form."""
        self.assertEqual(listed(sort, most), [word for word in words(sort.letters, most) if is_wanted(word)])
        self.assertEqual((sort.rows, sort.ends), own_rows(sort.rows, sort.ends, sort.letters, most + 2))

    def pairs(self, seed, many, letters=AB, states=3):
        """Some pairs of sorts."""
        source = random.Random(seed)
        for _ in range(many):
            yield random_sort(source, letters, states), random_sort(source, letters, states)

    def test_either(self):
        for a, b in self.pairs(1, 25):
            self.is_right(a | b, lambda word: word in a or word in b)

    def test_both(self):
        for a, b in self.pairs(2, 25):
            self.is_right(a & b, lambda word: word in a and word in b)

    def test_first_alone(self):
        for a, b in self.pairs(3, 25):
            self.is_right(a - b, lambda word: word in a and word not in b)

    def test_all_others(self):
        for a, b in self.pairs(4, 25, ABC):
            self.is_right(~a, lambda word: word not in a, 3)

    def test_in_succession(self):
        for a, b in self.pairs(5, 40):
            cuts = range(7)
            self.is_right(a + b, lambda word: any(word[:k] in a and word[k:] in b for k in cuts[:len(word) + 1]))

    def test_times(self):
        for a, b in self.pairs(6, 25, AB, 2):
            self.assertEqual(a * 0, Sort.only(AB, []))
            self.assertEqual(0 * b, Sort.only(AB, []))
            self.assertEqual(a * 1, a)
            self.assertEqual(1 * a, a)
            self.assertEqual(a * 2, a + a)
            self.assertEqual(3 * a, a + a + a)
            self.assertEqual(a * 12, a * 11 + a)
        self.assertEqual(letters_of("a", 2) * 12, letters_of("a", 24))
        self.assertEqual(12 * letters_of("a", 3), letters_of("a", 36))
        self.assertEqual(Sort.menus(AB, [["a", "b"]]) * 12, Sort.menus(AB, [["a", "b"]] * 12))

    def test_repeated(self):
        def is_sum(word, sort):
            """Whether a word consists of words of a sort."""
            return not word or any(word[:k] in sort and is_sum(word[k:], sort) for k in range(1, len(word) + 1))
        for a, b in self.pairs(7, 60):
            repeated = a.repeated()
            self.is_right(repeated, lambda word: is_sum(word, a))
            self.assertEqual(repeated.repeated(), repeated)
        self.assertEqual(Sort.nothing(AB).repeated(), Sort.only(AB, []))
        self.assertEqual(Sort.only(AB, []).repeated(), Sort.only(AB, []))
        self.assertEqual(letters_of("a", 5).repeated(), Sort(AB, [(k, "a", (k + 1) % 5) for k in range(5)], [0]))

    def test_laws_of_sets(self):
        every, nothing = Sort.every(AB), Sort.nothing(AB)
        empty = Sort.only(AB, [])
        source = random.Random(8)
        for a, b in self.pairs(9, 25):
            c = random_sort(source, AB, 3)
            self.assertEqual(~~a, a)
            self.assertEqual(a | b, b | a)
            self.assertEqual(a & b, b & a)
            self.assertEqual(a - b, a & ~b)
            self.assertEqual(~(a | b), ~a & ~b)
            self.assertEqual(a & (b | c), (a & b) | (a & c))
            self.assertEqual(a | (b & c), (a | b) & (a | c))
            self.assertEqual((a | ~a, a & ~a, a - a), (every, nothing, nothing))
            self.assertEqual((a | nothing, a & every, a - nothing), (a, a, a))
            self.assertEqual((a + empty, empty + a, a + nothing, nothing + a), (a, a, nothing, nothing))
            if b.states <= 3 and c.states <= 3 and (b + c).states <= 6:
                self.assertEqual((a + b) + c, a + (b + c))

    def test_operands_stay(self):
        a, b = letters_of("a", 2), letters_of("b", 1)
        parts = (a.rows, a.ends, b.rows, b.ends)
        self.assertEqual([a | b, a & b, a - b, ~a, a + b, a * 2, a.repeated()],
                         [a | b, a & b, a - b, ~a, a + b, a * 2, a.repeated()])
        self.assertEqual((a.rows, a.ends, b.rows, b.ends), parts)


class OperatorErrorsTest(Case):
    def test_forty_states(self):
        self.assertEqual((size_of_times(AB, 5) & size_of_times(AB, 8)).states, 40)
        self.fails(TooMany, lambda: size_of_times(AB, 6) & size_of_times(AB, 7), "states", 42, 40)
        self.assertEqual((times_of(AB, "a", 4) | times_of(AB, "b", 10)).states, 40)
        self.fails(TooMany, lambda: times_of(AB, "a", 6) | times_of(AB, "b", 7), "states", 42, 40)
        self.assertEqual((times_of(AB, "a", 4) - times_of(AB, "b", 10)).states, 40)
        self.fails(TooMany, lambda: times_of(AB, "a", 11) - times_of(AB, "b", 12), "states", 132, 40)
        self.assertEqual((~letters_of("a", 38)).states, 40)
        self.fails(TooMany, lambda: ~letters_of("a", 39), "states", 41, 40)
        self.assertEqual((letters_of("a", 35) + letters_of("b", 4)).states, 40)
        self.fails(TooMany, lambda: letters_of("a", 35) + letters_of("b", 5), "states", 41, 40)

    def test_forty_states_of_repeated(self):
        rows = [(0, "b", 1), (0, "a", 0), (0, "c", 1), (1, "b", 2), (1, "a", 3), (1, "c", 3), (2, "b", 3), (2, "a", 3),
                (2, "c", 4), (3, "b", 3), (3, "a", 3), (3, "c", 5), (4, "b", 4), (4, "a", 0), (4, "c", 0),
                (5, "b", 2), (5, "a", 1), (5, "c", 4)]
        self.assertEqual(Sort(ABC, rows, [2]).repeated().states, 40)
        rows = [(0, "b", 1), (0, "a", 0), (0, "c", 2), (1, "b", 3), (1, "a", 1), (2, "b", 4), (2, "a", 1), (2, "c", 1),
                (3, "b", 2), (3, "a", 1), (3, "c", 4), (4, "b", 0), (4, "a", 1), (4, "c", 5), (5, "b", 5),
                (5, "a", 4), (5, "c", 0)]
        self.fails(TooMany, lambda: Sort(ABC, rows, [0, 2]).repeated(), "states", 41, 40)

    def test_number_of_states(self):
        source = random.Random(10)
        sizes = []
        for _ in range(100):
            a, b = random_sort(source, ABC, 6, 0.1), random_sort(source, ABC, 6, 0.1)
            for action, own in ((lambda: a.repeated(), own_repeated_size(a)), (lambda: b + a, own_sum_size(b, a))):
                sizes.append(own)
                if own <= 40:
                    self.assertEqual(action().states, own)
                else:
                    self.fails(TooMany, action, "states", own, 40)
        self.assertGreater(max(sizes), 40)

    def test_many_states_ahead_of_a_small_one_form(self):
        wide = times_of(AB, "a", 6) | times_of(AB, "b", 6)
        self.assertEqual(wide.states, 36)
        row = Sort(AB, [(k, "a", (k + 1) % 5) for k in range(5)], [0])
        self.assertEqual(wide & row, Sort(AB, [(k, "a", (k + 1) % 5) for k in range(5)], [0]))
        self.assertEqual(letters_of("a", 39) & letters_of("b", 39), Sort.nothing(AB))
        self.assertEqual(wide + Sort.every(AB), Sort.every(AB))
        self.assertEqual(wide | ~wide, Sort.every(AB))

    def test_six_states_behind(self):
        a, six, seven = letters_of("a", 1), letters_of("b", 5), letters_of("b", 6)
        self.assertEqual(a + six, Sort.only(AB, ["a"] + ["b"] * 5))
        self.fails(TooMany, lambda: a + seven, "states", 7, 6)
        self.fails(TooMany, lambda: letters_of("a", 39) + seven, "states", 7, 6)
        self.fails(TooMany, lambda: letters_of("a", 39) + letters_of("a", 39), "states", 40, 6)
        self.fails(TooMany, lambda: letters_of("a", 39) + six, "states", 45, 40)
        self.assertEqual(six.repeated().states, 5)
        self.fails(TooMany, lambda: seven.repeated(), "states", 7, 6)
        self.fails(TooMany, lambda: seven * 2, "states", 7, 6)
        self.fails(TooMany, lambda: 12 * seven, "states", 7, 6)
        self.assertEqual(seven * 1, seven)
        self.assertEqual(seven * 0, Sort.only(AB, []))
        self.assertEqual((letters_of("a", 3) * 12).states, 37)
        self.fails(TooMany, lambda: letters_of("a", 4) * 12, "states", 41, 40)
        self.fails(TooMany, lambda: letters_of("a", 5) * 8, "states", 41, 40)

    def test_times_errors(self):
        a = letters_of("a", 39)
        for number in NO_TIMES:
            self.fails(BadNumber, lambda: a * number, number)
            self.fails(BadNumber, lambda: number * a, number)

    def test_other_letters(self):
        a, other = letters_of("a", 39), Sort.only(XY, ["x"] * 39)
        for action in (lambda: a | other, lambda: a & other, lambda: a - other, lambda: a + other,
                       lambda: a - Sort.only(Letters(["b", "a"]), ["a"]), lambda: a + Sort.every(XY)):
            self.fails(OtherLetters, action)


if __name__ == "__main__":
    unittest.main()
