import random
import unittest

from asksmore.closing import close
from asksmore.errors import BadBeginning, BadLetter, BadState, BadTop, NotLive, OtherLetters, TooLong, TooMany
from asksmore.histories import History
from asksmore.letters import Letters
from asksmore.sentences import Sentence
from asksmore.sorts import Sort, struck_words
from asksmore.strikes import struck
from asksmore.widened import Widened, is_closed, struck_sort
from tests.machines import (AB, ABC, LONG_ROWS, PUSHES, listed, live_of, long_closing, own_rows, own_sizes, own_state,
                            own_together, random_sort, size_of_times)
from tests.own import STRANGE, Case, own_struck, random_told, words

NO_STATES = [None, True, False, -1, 4, 12, 10 ** 31, "0", "", (), (0,), [], [0]]
NO_LETTERS = [False, True, 0, 1, "", "d", "A", (), ("a",), [], ["a"], {}, {"a": 1}, Letters(["a"])]
STEPS = Letters(["up", "down"])
UP_DOWN = close(STEPS, [Sentence(STEPS, "undone", "up", "down")])


def some_closings(seed, many, letters=ABC, most=4):
    """Some closings over few letters."""
    source = random.Random(seed)
    for _ in range(many):
        yield source, close(letters, random_told(source, letters, source.randrange(most)))


class ArrowsTest(Case):
    def test_against_all_words(self):
        for source, closing in some_closings(1, 25):
            sort = random_sort(source, ABC, 3)
            wide = Widened(closing, sort)
            first = {}
            for word in words(ABC, 6):
                form = own_struck(closing, "found", word)
                if len(form) <= 1:
                    for start in range(sort.states):
                        end = own_state(sort, start, word)
                        if end is not None:
                            first.setdefault((start, (form + (None,))[0], end), word)
            for arrow, word in first.items():
                self.assertEqual(wide.least(*arrow), len(word))
                self.assertEqual(wide.word(*arrow), word)
            for arrow in wide.arrows:
                if arrow not in first:
                    self.assertGreater(wide.least(*arrow), 6)
            sizes = own_sizes(closing, sort)
            order = [None] + live_of(closing)
            self.assertEqual(list(wide.arrows), [(p, x, q) for p in range(sort.states) for x in order
                                                 for q in range(sort.states) if (p, x, q) in sizes])
            for p, x, q in ((p, x, q) for p in range(sort.states) for x in order for q in range(sort.states)):
                self.assertEqual(wide.least(p, x, q), sizes.get((p, x, q)))
                if (p, x, q) not in sizes:
                    self.assertIsNone(wide.word(p, x, q))

    def test_long_words(self):
        closing, sort = long_closing(), Sort(PUSHES, LONG_ROWS, [7])
        wide = Widened(closing, sort)
        sizes = own_sizes(closing, sort)
        self.assertEqual({arrow: wide.least(*arrow) for arrow in wide.arrows}, sizes)
        self.assertEqual(max(sizes.values()), 1389)
        for arrow in wide.arrows:
            if sizes[arrow] > 300:
                self.fails(TooLong, lambda: wide.word(*arrow), sizes[arrow])
            else:
                word = wide.word(*arrow)
                self.assertEqual(len(word), sizes[arrow])
                self.assertEqual(own_state(sort, arrow[0], word), arrow[2])
                self.assertEqual(own_struck(closing, "found", word), () if arrow[1] is None else arrow[1:2])
        self.assertEqual(len(wide.word(7, None, 4)), 300)
        self.fails(TooLong, lambda: wide.word(6, "f", 4), 301)

    def test_every_word(self):
        wide = Widened(UP_DOWN, Sort.every(STEPS))
        self.assertEqual((wide.least(0, "up", 0), wide.word(0, None, 0), wide.arrows),
                         (1, (), ((0, None, 0), (0, "up", 0), (0, "down", 0))))

    def test_first_word_in_the_order_of_the_letters(self):
        letters = Letters(["z", "y", "x"])
        closing = close(letters, [Sentence(letters, "idle", "x"), Sentence(letters, "kept", "y", "z")])
        wide = Widened(closing, Sort(letters, [(0, "x", 1), (0, "z", 2), (1, "y", 3), (2, "x", 3), (0, "y", 1),
                                               (1, "z", 3), (3, "x", 3)], [3]))
        self.assertEqual(wide.word(0, "y", wide.domain.step(wide.domain.step(0, "y"), "z")), ("y", "z"))
        same = Widened(close(letters, []), Sort(letters, [(0, x, 1) for x in letters], [1]))
        self.assertEqual([same.word(0, x, 1) for x in letters], [("z",), ("y",), ("x",)])
        alike = close(letters, [Sentence(letters, "alike", "x", "y"), Sentence(letters, "alike", "y", "z")])
        self.assertEqual(Widened(alike, Sort(letters, [(0, "x", 1), (0, "y", 1)], [1])).word(0, "z", 1), ("y",))

    def test_attributes(self):
        sort = Sort.only(STEPS, ["up", "up", "down"])
        wide = Widened(UP_DOWN, sort)
        self.assertIs(wide.closing, UP_DOWN)
        self.assertEqual(wide.domain, sort)
        self.assertIsInstance(wide.arrows, tuple)
        self.assertTrue(all(isinstance(arrow, tuple) for arrow in wide.arrows))
        self.assertEqual(Widened(UP_DOWN, sort).arrows, wide.arrows)

    def test_example(self):
        wide = Widened(UP_DOWN, Sort.only(STEPS, ["up", "up", "down"]))
        self.assertEqual([wide.least(0, "up", 3), wide.least(1, None, 3), wide.least(0, None, 3),
                          wide.least(2, None, 2)], [3, 2, None, 0])
        self.assertEqual(wide.word(0, "up", 3), ("up", "up", "down"))

    def test_errors(self):
        closing = close(ABC, [Sentence(ABC, "idle", "c"), Sentence(ABC, "alike", "a", "b")])
        wide = Widened(closing, Sort.only(ABC, ["a", "b", "c"]))
        for action in (wide.least, wide.word):
            for state in NO_STATES:
                self.fails(BadState, lambda: action(state, "zz", state), 0)
                self.fails(BadState, lambda: action(3, "b", state), 1)
                self.fails(BadState, lambda: action(3, None, state), 1)
            for letter in NO_LETTERS:
                self.fails(BadLetter, lambda: action(0, letter, 4), 0)
            for letter in ("a", "c"):
                self.fails(NotLive, lambda: action(0, letter, 4), 0)

    def test_widened_errors(self):
        thirteen = Sort.only(AB, ["a"] * 12)
        closing = close(AB, [])
        self.assertEqual(Widened(closing, Sort.only(AB, ["a"] * 11)).domain.states, 12)
        self.fails(TooMany, lambda: Widened(closing, thirteen), "states", 13, 12)
        self.fails(OtherLetters, lambda: Widened(UP_DOWN, thirteen))
        self.fails(TooMany, lambda: is_closed(closing, thirteen, 5), "states", 13, 12)
        self.fails(OtherLetters, lambda: is_closed(UP_DOWN, thirteen, ()))


class ReachTest(Case):
    def test_against_all_words(self):
        for source, closing in some_closings(2, 25):
            sort = random_sort(source, ABC, 3)
            wide = Widened(closing, sort)
            for beginning in ("new", "found"):
                first = {}
                for word in words(ABC, 6):
                    state = own_state(sort, 0, word)
                    if state is not None:
                        top = ((beginning,) + own_struck(closing, beginning, word))[-1]
                        first.setdefault((state, top), word)
                for state in range(sort.states):
                    for top in [beginning] + live_of(closing):
                        word = first.get((state, top))
                        if word is None:
                            self.assertTrue((wide.reach(beginning, state, top) or 7) > 6)
                        else:
                            self.assertEqual(wide.reach(beginning, state, top), len(word))
                            self.assertEqual(wide.reached(beginning, state, top), word)
                        if wide.reach(beginning, state, top) is None:
                            self.assertIsNone(wide.reached(beginning, state, top))

    def test_none_only_where_nothing_is_found(self):
        for source, closing in some_closings(3, 15):
            sort = random_sort(source, ABC, 3)
            wide = Widened(closing, sort)
            for beginning in ("new", "found"):
                nodes = {(0, beginning)}
                while True:
                    more = set()
                    for p, x, q in own_sizes(closing, sort):
                        for state, top in nodes:
                            if state == p and x is None:
                                more.add((q, top))
                            elif state == p and top == "new" and closing.is_still(x):
                                more.add((q, top))
                            elif state == p and (top == beginning or own_together(closing, top, x) is False):
                                more.add((q, x))
                    if more <= nodes:
                        break
                    nodes |= more
                for state in range(sort.states):
                    for top in [beginning] + live_of(closing):
                        self.assertEqual(wide.reach(beginning, state, top) is not None, (state, top) in nodes)

    def test_long_words(self):
        wide = Widened(long_closing(), Sort(PUSHES, LONG_ROWS, [7]))
        sizes = []
        for beginning in ("new", "found"):
            for state in range(12):
                for top in [beginning, *PUSHES]:
                    size = wide.reach(beginning, state, top)
                    if size is not None and size <= 300:
                        word = wide.reached(beginning, state, top)
                        self.assertEqual((len(word), own_state(wide.domain, 0, word)), (size, state))
                        self.assertEqual(struck(wide.closing, History.spelled(PUSHES, beginning, word)).last, top)
                    elif size is not None:
                        sizes.append(size)
                        self.fails(TooLong, lambda: wide.reached(beginning, state, top), size)
        self.assertGreater(max(sizes), 500)

    def test_size_300(self):
        letters = Letters(["a", "b", "c", "d", "w"])
        told = [Sentence(letters, "undone", x, y) for x, y in (("a", "b"), ("c", "d"))] + [Sentence(letters, "idle", "w")]
        closing = close(letters, told)
        forms = Sort.only(letters, ["a"] * 30)
        ring = [(state, "w", state + 1) for state in range(9)] + [(9, "a", 0)]
        wide = Widened(closing, Sort(letters, ring, [0]))
        self.assertEqual(wide.into("found", forms), (("w",) * 9 + ("a",)) * 30)
        longer = Widened(closing, Sort(letters, ring, [1]))
        self.fails(TooLong, lambda: longer.into("found", forms), 301)
        self.fails(TooLong, lambda: longer.into("new", Sort.only(letters, ["a"] * 39)), 391)

    def test_errors(self):
        closing = close(ABC, [Sentence(ABC, "idle", "c"), Sentence(ABC, "alike", "a", "b")])
        wide = Widened(closing, Sort.only(ABC, ["a", "b", "c"]))
        for action in (wide.reach, wide.reached):
            for value in STRANGE + ["newer"]:
                self.fails(BadBeginning, lambda: action(value, -1, "zz"))
            for state in NO_STATES:
                self.fails(BadState, lambda: action("new", state, "zz"), 0)
            for top in [None, True, 0, -1, 10 ** 31, "", "a", "c", "d", (), ("b",), [], ["b"], ("new",)]:
                self.fails(BadTop, lambda: action("found", 0, top), top)
            self.fails(BadTop, lambda: action("found", 0, "new"), "new")
            self.fails(BadTop, lambda: action("new", 0, "found"), "found")
            self.assertIsNotNone(action("new", 0, "new"))
            self.assertIsNone(action("new", 0, "b"))


class IntoTest(Case):
    def test_against_all_words(self):
        for source, closing in some_closings(4, 30):
            sort, forms = random_sort(source, ABC, 3), random_sort(source, ABC, 3)
            wide = Widened(closing, sort)
            for beginning in ("new", "found"):
                own = [word for word in listed(sort, 6) if own_struck(closing, beginning, word) in forms]
                found = wide.into(beginning, forms)
                if own:
                    self.assertEqual(found, own[0])
                elif found is not None:
                    self.assertGreater(len(found), 6)
                    self.assertIn(found, sort)
                    self.assertIn(own_struck(closing, beginning, found), forms)

    def test_many_forms(self):
        wide = Widened(UP_DOWN, Sort(STEPS, [(0, "up", 1), (1, "down", 2), (2, "up", 0)], [0]))
        self.assertEqual(wide.into("new", Sort.only(STEPS, ["up"] * 39)), ("up", "down", "up") * 39)
        self.assertIsNone(wide.into("new", Sort.only(STEPS, ["down"])))
        self.assertIsNone(wide.into("new", Sort.nothing(STEPS)))
        self.assertEqual(wide.into("found", Sort.only(STEPS, [])), ())
        self.assertIsNone(Widened(UP_DOWN, Sort.nothing(STEPS)).into("found", Sort.every(STEPS)))

    def test_forms_that_are_not_struck(self):
        wide = Widened(UP_DOWN, Sort.every(STEPS))
        self.assertIsNone(wide.into("found", Sort.only(STEPS, ["up", "down"])))
        letters = Letters(["wait", "up", "down"])
        told = [Sentence(letters, "idle", "wait"), Sentence(letters, "undone", "up", "down")]
        waiting = Widened(close(letters, told), Sort.every(letters))
        for beginning in ("new", "found"):
            self.assertIsNone(waiting.into(beginning, Sort.only(letters, ["up", "down"])))
            self.assertIsNone(waiting.into(beginning, Sort.only(letters, ["up", "wait"])))
            self.assertEqual(waiting.into(beginning, Sort.only(letters, ["down", "up"])), ("down", "up"))
        going = Widened(waiting.closing, Sort.only(letters, ["up", "wait", "down", "up", "wait"]))
        for beginning in ("new", "found"):
            self.assertEqual(going.into(beginning, Sort.only(letters, ["up"])), ("up", "wait", "down", "up", "wait"))
            for word in (["up", "down"], ["up", "down", "up"], ["up", "down", "up", "down"], ["up", "up"]):
                self.assertIsNone(going.into(beginning, Sort.only(letters, word)))
        still = Widened(close(STEPS, [Sentence(STEPS, "still", "down")]), Sort.every(STEPS))
        self.assertIsNone(still.into("new", Sort.only(STEPS, ["down", "up"])))
        self.assertEqual(still.into("new", Sort.only(STEPS, ["up", "down"])), ("up", "down"))
        self.assertEqual(still.into("found", Sort.only(STEPS, ["down", "up"])), ("down", "up"))
        only_down = Widened(still.closing, Sort(STEPS, [(0, "down", 1)], [1]))
        self.assertEqual(only_down.into("new", Sort.only(STEPS, [])), ("down",))

    def test_errors(self):
        wide = Widened(UP_DOWN, Sort.every(STEPS))
        for value in STRANGE + ["newer"]:
            self.fails(BadBeginning, lambda: wide.into(value, Sort.every(AB)))
        self.fails(OtherLetters, lambda: wide.into("new", Sort.every(AB)))


class StruckSortTest(Case):
    def test_against_all_words(self):
        for source, closing in some_closings(5, 40):
            sort = random_sort(source, ABC, 3)
            for beginning in ("new", "found"):
                struck_one = struck_sort(closing, sort, beginning)
                forms = {own_struck(closing, beginning, word) for word in listed(sort, 6)}
                found = listed(struck_one, 3)
                self.assertLessEqual({form for form in forms if len(form) <= 3}, set(found))
                for word in found:
                    self.assertEqual(own_struck(closing, beginning, word), word)
                    self.assertIsNotNone(Widened(closing, sort).into(beginning, Sort.only(ABC, word)))
                self.assertEqual((struck_one.rows, struck_one.ends), own_rows(struck_one.rows, struck_one.ends, ABC, 5))
                if struck_one.states <= 6:
                    self.assertEqual(struck_sort(closing, struck_one, beginning), struck_one)

    def test_all_words(self):
        for source, closing in some_closings(6, 30):
            for beginning in ("new", "found"):
                self.assertEqual(struck_sort(closing, Sort.every(ABC), beginning), struck_words(closing, beginning))

    def test_many_states(self):
        letters = Letters(["a", "b", "c", "w"])
        closing = close(letters, [Sentence(letters, "idle", "w")])
        forty = [(0, "a", 1), (0, "b", 2), (0, "c", 1), (1, "a", 0), (1, "b", 0), (1, "c", 2), (1, "w", 1),
                 (2, "a", 3), (2, "b", 1), (2, "c", 4), (2, "w", 2), (3, "a", 1), (3, "b", 1), (3, "c", 5),
                 (3, "w", 1), (4, "a", 5), (4, "b", 4), (4, "c", 0), (5, "a", 2), (5, "b", 3), (5, "c", 5),
                 (5, "w", 5)]
        self.assertEqual(struck_sort(closing, Sort(letters, forty, [0, 4]), "new").states, 40)
        more = [(0, "b", 1), (0, "c", 2), (1, "a", 3), (1, "b", 3), (1, "c", 4), (1, "w", 1), (2, "a", 0), (2, "b", 0),
                (2, "c", 1), (2, "w", 2), (3, "a", 2), (3, "b", 2), (3, "c", 5), (3, "w", 2), (4, "a", 5),
                (4, "b", 4), (4, "c", 0), (5, "a", 1), (5, "b", 3), (5, "c", 5), (5, "w", 5)]
        with self.assertRaises(TooMany) as caught:
            struck_sort(closing, Sort(letters, more, [0, 4]), "found")
        self.assertEqual((caught.exception.what, caught.exception.most), ("states", 40))
        self.assertGreater(caught.exception.many, 40)

    def test_errors(self):
        six, seven = size_of_times(AB, 6), size_of_times(AB, 7)
        closing = close(AB, [])
        self.assertEqual(struck_sort(closing, six, "new"), six)
        self.fails(TooMany, lambda: struck_sort(closing, seven, "new"), "states", 7, 6)
        self.fails(OtherLetters, lambda: struck_sort(UP_DOWN, seven, "new"))
        for value in STRANGE + ["newer"]:
            self.fails(BadBeginning, lambda: struck_sort(UP_DOWN, seven, value))


class IsClosedTest(Case):
    def test_arrows_of_a_sort(self):
        for source, closing in some_closings(8, 25):
            sort = random_sort(source, ABC, 3)
            arrows = Widened(closing, sort).arrows
            for told in (arrows, list(arrows), [list(arrow) for arrow in arrows[::-1]], arrows + arrows):
                self.assertIs(is_closed(closing, sort, told), True)
            for at in range(len(arrows)):
                self.assertIs(is_closed(closing, sort, arrows[:at] + arrows[at + 1:]), False)
            order = [None] + live_of(closing)
            states = range(sort.states)
            every = [(p, x, q) for p in states for x in order for q in states]
            self.assertIs(is_closed(closing, sort, every), True)
            for arrow in every:
                more = list(arrows) + [arrow]
                self.assertIs(is_closed(closing, sort, more), self.is_closed(closing, sort, set(more)))

    def is_closed(self, closing, sort, arrows):
        """The conditions of the document, one by one."""
        states = range(sort.states)
        due = {(p, None, p) for p in states} | {(p, closing.least(x), q) for p, x, q in sort.rows}
        for p, x, r in arrows:
            for other, y, q in arrows:
                if r == other and own_together(closing, x, y) is not False:
                    due.add((p, own_together(closing, x, y), q))
        return due <= arrows

    def test_wrong_values(self):
        sort = Sort.only(ABC, ["a", "b"])
        closing = close(ABC, [Sentence(ABC, "idle", "c")])
        arrows = Widened(closing, sort).arrows
        for value in STRANGE + [dict.fromkeys(arrows, 1), "abc", {0: arrows}]:
            self.assertIs(is_closed(closing, sort, value), False)
        for part in STRANGE + [(0, None), (0, None, 0, 0), [0, "a"], "0a1", {0: 0, 1: "a", 2: 1}]:
            self.assertIs(is_closed(closing, sort, list(arrows) + [part]), False)
        for state in [None, True, False, -1, 3, 10 ** 31, "0", (), (0,), [], [0]]:
            self.assertIs(is_closed(closing, sort, list(arrows) + [(state, "a", 1)]), False)
            self.assertIs(is_closed(closing, sort, arrows + ((0, "a", state),)), False)
        for letter in NO_LETTERS + ["c", "new"]:
            self.assertIs(is_closed(closing, sort, list(arrows) + [(0, letter, 1)]), False)
        over = close(ABC, [Sentence(ABC, "over", "a", "b")])
        self.assertIs(is_closed(over, sort, Widened(over, sort).arrows), True)
        self.assertIs(is_closed(over, sort, Widened(over, sort).arrows + ([2, "b", 0],)), True)
        self.assertIs(is_closed(over, sort, list(Widened(over, sort).arrows) + [(2, "a", 1)]), False)

    def test_the_arrows_stay(self):
        arrows = [[0, None, 0]]
        self.assertIs(is_closed(close(AB, []), Sort.nothing(AB), arrows), True)
        self.assertEqual(arrows, [[0, None, 0]])


if __name__ == "__main__":
    unittest.main()
