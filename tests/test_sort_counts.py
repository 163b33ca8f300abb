import itertools
import math
import random
import unittest

from asksmore.errors import BadNumber, BadPlace, OtherLetters, TooLong, TooMany
from asksmore.letters import Letters
from asksmore.sorts import Sort
from tests.machines import AB, ABC, listed, random_sort, size_of_times, times_of
from tests.own import STRANGE, Case, words

NO_NUMBERS = [True, False, -1, 10 ** 30 + 1, "2", "", (), (2,), [], [2]]
NO_TWO_B = Sort(AB, [(0, "a", 0), (0, "b", 1), (1, "a", 0)], [0, 1])
IN_TURN = Sort(ABC, [(0, "b", 0), (0, "a", 1), (1, "a", 1), (0, "c", 2), (1, "c", 2), (2, "c", 2)], [0, 1, 2])


def own_rings(sort):
    """The rings of the one form, each as the set of its rows."""
    found = set()

    def walk(start, state, way, seen):
        """Go on along rows from a state."""
        for row in sort.rows:
            if row[0] == state and row[2] == start:
                found.add(frozenset(way + [row]))
            elif row[0] == state and row[2] not in seen:
                walk(start, row[2], way + [row], seen | {row[2]})

    for state in range(sort.states):
        walk(state, state, [], {state})
    return found


def own_growth(sort):
    """The growth by the words and by the rings."""
    rings = [({row[0] for row in ring}, ring) for ring in own_rings(sort)]
    if any(one[0] & other[0] for one, other in itertools.combinations(rings, 2)):
        return "wild", 0
    if not rings:
        return "finite", len(listed(sort, sort.states))
    most = 0
    for start in [0]:
        todo = [(start, frozenset())]
        seen = set()
        while todo:
            state, met = todo.pop()
            met = met | {at for at, (states, ring) in enumerate(rings) if state in states}
            if (state, met) not in seen:
                seen.add((state, met))
                most = max(most, len(met))
                todo += [(row[2], met) for row in sort.rows if row[0] == state]
    return "steady", most - 1


def fibonacci(n, modulo):
    """The numbers at n and behind it."""
    if n == 0:
        return 0, 1
    a, b = fibonacci(n // 2, modulo)
    c, d = a * (2 * b - a) % modulo, (a * a + b * b) % modulo
    return (d, (c + d) % modulo) if n % 2 else (c, d)


class GrowthTest(Case):
    def test_random_sorts(self):
        source = random.Random(1)
        kinds = []
        for missing in (0.1, 0.2, 0.3, 0.5) * 60:
            states = source.choice((3, 5, 7))
            rows = [(state, x, source.randrange(max(0, state - source.randrange(2) * source.randrange(3)), states))
                    for state in range(states) for x in AB if source.random() > missing]
            sort = Sort(AB, rows, [state for state in range(states) if source.random() < 0.4])
            self.assertEqual(sort.growth(), own_growth(sort))
            kinds.append(sort.growth())
        for growth in (("wild", 0), ("steady", 0), ("steady", 1), ("steady", 2), ("finite", 0), ("finite", 3)):
            self.assertTrue(growth in kinds, growth)

    def test_examples(self):
        self.assertEqual(Sort.nothing(AB).growth(), ("finite", 0))
        self.assertEqual(Sort.only(AB, []).growth(), ("finite", 1))
        self.assertEqual(Sort.menus(AB, [["a", "b"]] * 39).growth(), ("finite", 2 ** 39))
        self.assertEqual(IN_TURN.growth(), ("steady", 2))
        self.assertEqual(NO_TWO_B.growth(), ("wild", 0))
        # Two parallel rows are two rings.
        self.assertEqual(Sort(AB, [(0, "a", 1), (0, "b", 1), (1, "a", 0)], [0]).growth(), ("wild", 0))
        self.assertEqual(Sort(AB, [(0, "a", 1), (1, "a", 0)], [0]).growth(), ("steady", 0))
        # Two rings side by side, behind a common start: no word meets both.
        self.assertEqual(Sort(AB, [(0, "a", 1), (0, "b", 2), (1, "a", 1), (2, "b", 2)], [1, 2]).growth(),
                         ("steady", 0))
        self.assertEqual((size_of_times(Letters(["a"]), 12)).growth(), ("steady", 0))
        self.assertEqual((IN_TURN + IN_TURN.after(["c"])).growth(), ("steady", 2))

    def test_results_with_many_states(self):
        one = Letters(["a"])
        both = size_of_times(one, 5) & size_of_times(one, 8)
        self.assertEqual((both.growth(), both.number_of(40), both.number_of(41)), (("steady", 0), 1, 0))


class NumberOfTest(Case):
    def test_small_sizes(self):
        source = random.Random(2)
        for _ in range(40):
            sort = random_sort(source, ABC, 4)
            for size in range(6):
                many = len([word for word in listed(sort, 5) if len(word) == size])
                self.assertEqual(sort.number_of(size), many)
                self.assertEqual(sort.number_of(size, modulo=None), many)
                for modulo in (1, 2, 3, 10 ** 30):
                    self.assertEqual(sort.number_of(size, modulo=modulo), many % modulo)

    def test_middle_sizes(self):
        self.assertEqual(Sort.every(ABC).number_of(2000), 3 ** 2000)
        self.assertEqual(Sort.every(ABC).number_of(2000, modulo=10 ** 30), 3 ** 2000 % 10 ** 30)
        self.assertEqual((size_of_times(AB, 5) & size_of_times(AB, 8)).number_of(2000), 2 ** 2000)
        self.assertEqual(IN_TURN.number_of(2000), math.comb(2002, 2))

    def test_large_sizes(self):
        huge = 10 ** 30
        self.assertEqual(IN_TURN.number_of(huge), math.comb(huge + 2, 2))
        self.assertEqual(IN_TURN.number_of(huge, modulo=97), math.comb(huge + 2, 2) % 97)
        self.assertEqual(IN_TURN.number_of(2001), math.comb(2003, 2))
        self.assertEqual(Sort.only(AB, ["a"] * 11).number_of(huge), 0)
        self.assertEqual(Sort.nothing(AB).number_of(huge), 0)
        for modulo in (1, 2, 7, 10 ** 30 - 1, 10 ** 30):
            self.assertEqual(Sort.every(ABC).number_of(huge, modulo=modulo), pow(3, huge, modulo))
            self.assertEqual(NO_TWO_B.number_of(huge, modulo=modulo), fibonacci(huge + 2, modulo)[0] % modulo)
            self.assertEqual(NO_TWO_B.number_of(2001, modulo=modulo), fibonacci(2003, modulo)[0] % modulo)
        for size, wanted in ((huge, 0), (huge - 1, 0), (huge + 2 - huge % 12, 1)):
            sort = size_of_times(Letters(["a"]), 12).after(["a"] * 10)
            self.assertEqual(sort.number_of(min(size, huge)), int((min(size, huge) + 10) % 12 == 0))

    def test_errors(self):
        wide = size_of_times(AB, 5) & size_of_times(AB, 8)
        for number in NO_NUMBERS + [None]:
            self.fails(BadNumber, lambda: wide.number_of(number), number)
            self.fails(BadNumber, lambda: wide.number_of(number, modulo=0), number)
        for number in NO_NUMBERS + [0]:
            self.fails(BadNumber, lambda: wide.number_of(3000, modulo=number), number)
            self.fails(BadNumber, lambda: wide.number_of(0, modulo=number), number)
        self.fails(TooMany, lambda: wide.number_of(2001), "states", 40, 12)
        self.fails(TooMany, lambda: wide.number_of(2001, modulo=1), "states", 40, 12)
        self.fails(TooMany, lambda: Sort.only(AB, ["a"] * 12).number_of(2001), "states", 13, 12)
        self.fails(TooLong, lambda: NO_TWO_B.number_of(2001), 2001)
        self.fails(TooLong, lambda: size_of_times(AB, 12).number_of(10 ** 30), 10 ** 30)
        self.assertRaises(TypeError, NO_TWO_B.number_of, 1, 2)


class CountsApartTest(Case):
    def test_random_sorts(self):
        source = random.Random(3)
        equal = 0
        for _ in range(200):
            one, other = random_sort(source, AB, 3), random_sort(source, AB, 3)
            most = one.states + other.states
            apart = [size for size in range(most) if one.number_of(size) != other.number_of(size)]
            self.assertEqual(one.counts_apart(other), (apart + [None])[0])
            self.assertEqual(one.counts_apart(other), other.counts_apart(one))
            equal += not apart and one != other
        self.assertTrue(equal)

    def test_examples(self):
        self.assertIsNone(times_of(AB, "a", 3).counts_apart(times_of(AB, "b", 3)))
        self.assertIsNone(Sort.ending(AB, "a").counts_apart(Sort.ending(AB, "b")))
        self.assertIsNone(Sort.only(AB, ["a"]).counts_apart(Sort.only(AB, ["b"])))
        self.assertEqual(Sort.only(AB, ["a"] * 39).counts_apart(Sort.nothing(AB)), 39)
        self.assertEqual(size_of_times(AB, 12).counts_apart(size_of_times(AB, 11)), 11)
        self.assertEqual((size_of_times(AB, 5) & size_of_times(AB, 8)).counts_apart(Sort.only(AB, [])), 40)
        self.assertEqual(Sort.only(AB, []).counts_apart(Sort.nothing(AB)), 0)
        self.fails(OtherLetters, lambda: NO_TWO_B.counts_apart(Sort.every(ABC)))

    def test_late_difference(self):
        one = Letters(["a"])
        short, long = size_of_times(one, 3), size_of_times(one, 4)
        self.assertEqual((short & long).counts_apart(Sort.only(one, [])), 12)
        five, eight = size_of_times(one, 5), size_of_times(one, 8)
        twelve = size_of_times(one, 7)
        # Sizes that are multiples of 40 on the one side, of 35 on the other one.
        self.assertEqual((five & eight).counts_apart(five & twelve), 35)


class RanksTest(Case):
    def test_ranks_and_words(self):
        source = random.Random(4)
        for _ in range(40):
            sort = random_sort(source, ABC, 4)
            own = listed(sort, 5)
            for at, word in enumerate(own):
                self.assertEqual(sort.rank_of(word), at)
                self.assertEqual(sort[at], word)
            for word in words(ABC, 4):
                if word not in own:
                    self.assertIsNone(sort.rank_of(word))

    def test_far_places(self):
        for sort in (Sort.every(AB), NO_TWO_B, IN_TURN, size_of_times(ABC, 12)):
            for place in (0, 1, 7, 10 ** 3, 10 ** 6, 12345):
                if place < 10 ** 4 or sort.growth()[0] == "wild":
                    self.assertEqual(sort.rank_of(sort[place]), place)
        self.assertEqual(Sort.every(AB)[2 ** 300 - 1], ("a",) * 300)
        self.assertEqual(Sort.every(AB).rank_of(("b",) * 300), 2 ** 301 - 2)
        self.assertEqual(Sort.every(AB)[2 ** 301 - 2], ("b",) * 300)
        self.fails(TooLong, lambda: Sort.every(AB)[2 ** 301 - 1], 2 ** 301 - 1)
        self.fails(TooLong, lambda: Sort.every(AB)[10 ** 1000], 10 ** 1000)

    def test_no_word_there(self):
        sort = Sort.menus(AB, [["a", "b"], ["b"]])
        self.assertEqual([sort[0], sort[1]], [("a", "b"), ("b", "b")])
        for place in (2, 3, 10 ** 40):
            self.fails(BadPlace, lambda: sort[place], place)
            self.fails(BadPlace, lambda: Sort.nothing(AB)[place], place)
        self.fails(BadPlace, lambda: Sort.nothing(AB)[0], 0)
        self.fails(BadPlace, lambda: Sort.only(AB, [])[1], 1)
        self.assertEqual(Sort.only(AB, ["a"] * 39)[0], ("a",) * 39)
        for place in [None, True, False, -1, "0", "", (), (0,), [], [0], {}, {"a": 1}]:
            self.fails(BadPlace, lambda: sort[place], place)
            self.fails(BadPlace, lambda: Sort.every(AB)[place], place)

    def test_words_above_300_letters(self):
        one = Letters(["a"])
        rare = size_of_times(one, 5) & size_of_times(one, 8)
        self.assertEqual(rare[7], ("a",) * 280)
        self.fails(TooLong, lambda: rare[8], 8)
        self.assertEqual(size_of_times(one, 12)[25], ("a",) * 300)
        self.fails(TooLong, lambda: size_of_times(one, 12)[26], 26)
        self.assertEqual(size_of_times(one, 7)[42], ("a",) * 294)
        self.fails(TooLong, lambda: size_of_times(one, 7)[43], 43)

    def test_endless_sorts_with_rare_words(self):
        for many in (2, 7, 12):
            for ahead in range(many):
                sort = size_of_times(Letters(["a"]), many).after(["a"] * ahead)
                self.fails(TooLong, lambda: sort[300], 300)
                self.assertEqual(sort[0], ("a",) * ((many - ahead) % many))

    def test_ranks_of_other_values(self):
        sort = Sort.every(AB)
        for value in STRANGE[:9] + [["a"], [], ("a", 1), ("c",), ("a",) * 301 + ("c",), ["a"] * 301, ("new",)]:
            self.assertIsNone(sort.rank_of(value))
        for value in STRANGE[12:]:
            self.assertIsNone(sort.rank_of(value))
        self.assertEqual((sort.rank_of(()), sort.rank_of(("a",))), (0, 1))
        self.assertIsNone(Sort.nothing(AB).rank_of(()))
        self.assertIsNone(Sort.nothing(AB).rank_of(("a",) * 300))
        self.assertEqual(Sort(AB, [(0, "b", 0)], [0]).rank_of(("b",) * 300), 300)
        for other in (sort, Sort.nothing(AB)):
            self.fails(TooLong, lambda: other.rank_of(("a",) * 301), 301)
            self.fails(TooLong, lambda: other.rank_of(("a", "b") * 2000), 4000)


class ExamplesTest(Case):
    def test_of_the_document(self):
        one = Sort(AB, [(0, "a", 0), (0, "b", 1)], [1])
        self.assertEqual([one.least(), one[3], one.growth(), one.number_of(10 ** 30)],
                         [("b",), ("a", "a", "a", "b"), ("steady", 0), 1])
        two = one + Sort(AB, [(0, "a", 0)], [0])
        self.assertEqual([two.growth(), two.number_of(5), two.number_of(10 ** 30) == 10 ** 30, one.counts_apart(two)],
                         [("steady", 1), 5, True, 2])
        self.assertEqual([Sort.every(AB).growth(), Sort.every(AB).number_of(10 ** 30, modulo=7)], [("wild", 0), 2])


if __name__ == "__main__":
    unittest.main()
