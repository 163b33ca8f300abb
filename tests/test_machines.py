import random
import unittest

from asksmore.errors import BadAnswers, BadBeginning, BadRow, BadState, OtherLetters, TooMany, Uneven
from asksmore.histories import History
from asksmore.letters import Letters
from asksmore.machines import Machine
from asksmore.sentences import Limit, Sentence
from asksmore.sorts import Sort
from tests.listing import Rows, every_limit, histories, random_answerer, spelled
from tests.machines import AB, ABC, listed
from tests.own import STRANGE, Case, every_sentence, random_runs, words

DEEDS = Letters(["put", "drop"])
HAS = Machine(DEEDS, [[1, 0], [1, 0]], ["no", "yes"])
NO_STATES = [None, True, False, -1, 2, 10 ** 31, "", "0", (), (0,), [], [0]]


class MachineTest(Case):
    def test_example(self):
        self.assertIsNone(HAS.breaks(Sentence(DEEDS, "kept", "put", "put")))
        self.assertEqual(HAS.breaks(Sentence(DEEDS, "idle", "put")).size, 0)
        self.assertEqual(HAS.words_with("new", ["yes"]).rows,
                         ((0, "put", 1), (0, "drop", 0), (1, "put", 1), (1, "drop", 0)))

    def test_attributes(self):
        rows, answers = [[1, 0], (1, 1)], ["no", "yes"]
        machine = Machine(DEEDS, rows, answers, new=1, found=0)
        rows[0][0], answers[0] = 0, "never"
        rows.append([0, 0])
        self.assertEqual((machine.letters, machine.rows, machine.answers), (DEEDS, ((1, 0), (1, 1)), ("no", "yes")))
        self.assertEqual((machine.new, machine.found, machine.states), (1, 0, 2))
        self.assertEqual((HAS.new, HAS.found), (0, 0))
        self.assertEqual(Machine(DEEDS, ([0, 0],), ("no",)).rows, ((0, 0),))

    def test_new_and_found_by_name_only(self):
        with self.assertRaises(TypeError):
            Machine(DEEDS, [[0, 0]], ["no"], 0)

    def test_numbers_of_states(self):
        def build(many, letters=AB):
            return Machine(letters, [[0] * len(letters)] * many, ["no"] * many)
        for many in (1, 40):
            self.assertEqual(build(many).states, many)
        for many in (0, 41, 42):
            self.fails(TooMany, lambda: build(many), "states", many, 40)
        self.fails(TooMany, lambda: Machine(AB, [None] * 41, []), "states", 41, 40)
        self.fails(TooMany, lambda: Machine(AB, [], ["no"], new=5), "states", 0, 40)

    def test_wrong_rows(self):
        def build(row, answers=("no", "no", "no")):
            return Machine(AB, [[0, 2], row, row], answers)
        self.assertEqual(build((2, 0)).rows[1], (2, 0))
        for row in STRANGE + [[0], [0, 0, 0], [0, -1], [3, 0], [0, True], [False, 0], [0, "1"], [None, 0], [0, [1]],
                              [(0,), 0], "00", {0: 0, 1: 1}, [0, 10 ** 30], {0, 1}]:
            self.fails(BadRow, lambda: build(row), 1)
        self.fails(BadRow, lambda: build([0], ()), 1)

    def test_uneven_and_answers(self):
        rows = [[0, 0], [1, 1]]
        for many in (0, 1, 3):
            self.fails(Uneven, lambda: Machine(AB, rows, ["no"] * many), many, 2)
            self.fails(Uneven, lambda: Machine(AB, rows, ["NO"] * many, new=7), many, 2)
        for value in [value for value in STRANGE if value not in ("zz", "new")] + ["Yes", "1a", "a" * 13, "no "]:
            self.fails(BadAnswers, lambda: Machine(AB, rows, ["new", value], new=2), 1)
            self.fails(BadAnswers, lambda: Machine(AB, rows, [value, value]), 0)
        self.assertEqual(Machine(AB, rows, ["new", "a" * 12]).answers, ("new", "a" * 12))

    def test_no_states(self):
        rows = [[0, 0], [1, 1]]
        for value in NO_STATES:
            self.fails(BadState, lambda: Machine(AB, rows, ["a", "b"], new=value, found=value), 0)
            self.fails(BadState, lambda: Machine(AB, rows, ["a", "b"], found=value), 1)

    def test_states_and_answers(self):
        source = random.Random(1)
        for _ in range(150):
            machine = random_answerer(source, ABC, source.randrange(1, 9))
            own = Rows(machine)
            for _ in range(6):
                history = History(ABC, source.choice(("new", "found")), random_runs(source, ABC, 5, (1, 2, 7, 30)))
                self.assertEqual(machine.state(history), own.state(history.beginning, history.word()))
                self.assertEqual(machine(history), own.answer(history.beginning, history.word()))

    def test_large_counts(self):
        ring = Machine(AB, [[(at + 1) % 7, at] for at in range(7)], [f"a{at}" for at in range(7)], found=3)
        for count in (10 ** 30, 10 ** 30 - 1, 7 * 10 ** 28):
            self.assertEqual(ring.state(History(AB, "new", [("a", count)])), count % 7)
            self.assertEqual(ring(History(AB, "found", [("b", count), ("a", count), ("b", 1)])),
                             f"a{(3 + count) % 7}")
        more = History(AB, "new", [("a", 10 ** 30)]) + [("a", 10 ** 30)]
        self.assertEqual(ring.state(more), 2 * 10 ** 30 % 7)
        runs = [("a", 10 ** 30), ("b", 10 ** 30)] * 200
        self.assertEqual(ring.state(History(AB, "new", runs)), 200 * 10 ** 30 % 7)

    def test_other_letters(self):
        machine = Machine(AB, [[0, 0]], ["no"])
        calls = [lambda: machine(History(ABC, "new")), lambda: machine.state(History(ABC, "found")),
                 lambda: machine.breaks(Sentence(ABC, "idle", "a")), lambda: machine.breaks(Limit(ABC, "fresh", ["no"])),
                 lambda: machine.apart(Machine(ABC, [[0, 0, 0]], ["no"])),
                 lambda: machine.apart(Machine(Letters(["b", "a"]), [[0, 0]], ["no"]))]
        for call in calls:
            self.fails(OtherLetters, call)


class BreaksTest(Case):
    def test_against_listing_histories(self):
        source = random.Random(2)
        kinds = set()
        for _ in range(120):
            machine = random_answerer(source, AB, source.randrange(1, 5))
            own = Rows(machine)
            items = every_sentence(AB) + [item for many in (1, 2, 3) for item in
                                          every_limit(AB, source.sample(["no", "yes", "a", "b1"], many))]
            for item in items:
                shown, wanted = machine.breaks(item), own.first_break(item, 4)
                kinds.add((item.kind, wanted and len(wanted[1])))
                self.assertEqual(shown, None if wanted is None else spelled(AB, wanted))
        self.assertLessEqual({(kind, size) for kind in ("always", "idle", "kept", "over", "undone", "alike")
                              for size in (None, 0, 1)}, kinds)
        self.assertLessEqual({("behind", None), ("behind", 1), ("behind", 2), ("fresh", 0), ("still", 0)}, kinds)

    def test_three_letters(self):
        source = random.Random(3)
        for _ in range(25):
            machine = random_answerer(source, ABC, source.randrange(2, 5), ("no", "yes"))
            own = Rows(machine)
            for item in every_sentence(ABC) + every_limit(ABC, ["no"]):
                shown, wanted = machine.breaks(item), own.first_break(item, 4)
                self.assertEqual(shown, None if wanted is None else spelled(ABC, wanted))

    def test_still_speaks_of_a_new_object_without_letters(self):
        machine = Machine(AB, [[0, 1], [0, 1]], ["no", "yes"])
        self.assertIsNone(machine.breaks(Sentence(AB, "still", "a")))
        self.assertEqual(machine.breaks(Sentence(AB, "still", "b")), History(AB, "new"))
        self.assertIsNone(Machine(AB, [[0, 0], [0, 0]], ["no", "yes"], found=1).breaks(Sentence(AB, "still", "a")))

    def test_states_that_are_not_reached_do_not_count(self):
        machine = Machine(AB, [[0, 0], [0, 1], [2, 1]], ["no", "yes", "no"])
        for item in [Sentence(AB, "idle", "a"), Sentence(AB, "alike", "a", "b"), Limit(AB, "always", ["no"]),
                     Limit(AB, "behind", ["no"], "b")]:
            self.assertIsNone(machine.breaks(item))
            self.assertIsNotNone(Machine(AB, machine.rows, machine.answers, found=1).breaks(item))

    def test_history_new_comes_before_found(self):
        machine = Machine(AB, [[1, 0], [1, 1]], ["no", "yes"], found=1)
        self.assertEqual(machine.breaks(Limit(AB, "always", ["no"])), History(AB, "found"))
        self.assertEqual(machine.breaks(Limit(AB, "behind", ["no"], "a")), History(AB, "new", [("a", 1)]))
        self.assertEqual(machine.breaks(Limit(AB, "behind", ["no"], "b")), History(AB, "found", [("b", 1)]))

    def test_forty_states(self):
        chain = Machine(AB, [[min(at + 1, 39), 0] for at in range(40)], ["no"] * 39 + ["yes"])
        self.assertEqual(chain.breaks(Limit(AB, "always", ["no"])).runs, (("a", 39),))
        self.assertEqual(chain.breaks(Limit(AB, "behind", ["no"], "a")).runs, (("a", 39),))
        self.assertIsNone(chain.breaks(Limit(AB, "behind", ["no"], "b")))


class MinimalTest(Case):
    def test_against_answers_after_all_histories(self):
        source = random.Random(4)
        sizes = set()
        for _ in range(200):
            machine = random_answerer(source, AB, source.randrange(1, 6), ("no", "yes"))
            least = machine.minimal()
            self.assert_least(machine, least)
            sizes.add((machine.states, least.states))
        self.assertLessEqual({(5, 5), (5, 1), (5, 3), (1, 1)}, sizes)

    def assert_least(self, machine, least):
        """The answers are the same, and the states are told apart and numbered by listing histories."""
        own, other = Rows(machine), Rows(least)
        ways = list(histories(AB, 5))
        self.assertEqual([own.answer(*way) for way in ways], [other.answer(*way) for way in ways])
        numbers = {}
        for beginning, word in histories(AB, 4):
            behind = tuple(own.answer(beginning, word + more) for more in words(AB, 4))
            self.assertEqual(other.state(beginning, word), numbers.setdefault(behind, len(numbers)))
        self.assertEqual(least.states, len(numbers))
        self.assertEqual(least.letters, machine.letters)
        self.assertEqual((least.new, least.found), (0, other.state("found", ())))

    def test_many_answers(self):
        machine = Machine(AB, [[at // 2, (at + 1) % 40] for at in range(40)], [f"a{at % 10}" for at in range(40)],
                          found=20)
        self.assertEqual(machine.minimal().states, 40)
        self.assertEqual((machine.minimal().new, machine.minimal().found), (0, 1))
        ring = Machine(AB, [[(at + 10) % 40, (at + 1) % 40] for at in range(40)], [f"a{at % 10}" for at in range(40)],
                       found=10)
        self.assertEqual((ring.minimal().states, ring.minimal().found), (10, 0))
        self.assertEqual(ring.minimal().answers, tuple(f"a{at}" for at in range(10)))

    def test_may_keep_what_the_machine_breaks(self):
        machine = Machine(AB, [[1, 0], [0, 1]], ["no", "no"])
        self.assertIsNotNone(machine.breaks(Sentence(AB, "idle", "a")))
        self.assertIsNone(machine.minimal().breaks(Sentence(AB, "idle", "a")))
        self.assertEqual(machine.minimal().rows, ((0, 0),))


class ApartTest(Case):
    def test_against_listing_histories(self):
        source = random.Random(5)
        sizes = set()
        for _ in range(300):
            one, other = [random_answerer(source, AB, source.randrange(1, 4), ("no", "yes")) for _ in range(2)]
            left, right = Rows(one), Rows(other)
            wrong = [way for way in histories(AB, 5) if left.answer(*way) != right.answer(*way)]
            shown = one.apart(other)
            self.assertEqual(shown, spelled(AB, wrong[0]) if wrong else None)
            self.assertEqual(other.apart(one), shown)
            self.assertIsNone(one.apart(one))
            self.assertIsNone(one.apart(one.minimal()))
            sizes.add(shown and (shown.beginning, shown.size))
        self.assertLessEqual({None, ("new", 0), ("found", 0), ("new", 1)}, sizes)

    def test_parted_late(self):
        one = Machine(AB, [[(at + 1) % 39, at] for at in range(39)], ["no"] * 38 + ["yes"])
        other = Machine(AB, [[(at + 1) % 40, at] for at in range(40)], ["no"] * 38 + ["yes", "no"])
        self.assertEqual(one.apart(other).runs, (("a", 39 + 38),))
        self.assertEqual(one.apart(other).beginning, "new")
        late = Machine(AB, other.rows, ["no"] * 39 + ["yes"])
        none = Machine(AB, [[0, 0]], ["no"])
        self.assertEqual(late.apart(none).size, 39)


class WordsWithTest(Case):
    def test_against_listing_words(self):
        source = random.Random(6)
        for _ in range(80):
            machine = random_answerer(source, AB, source.randrange(1, 5))
            own = Rows(machine)
            for beginning in ("new", "found"):
                answers = source.sample(["no", "yes", "a", "b1"], source.randrange(1, 4))
                sort = machine.words_with(beginning, answers)
                self.assertIsInstance(sort, Sort)
                self.assertEqual(listed(sort, 5), [word for word in words(AB, 5)
                                                   if own.answer(beginning, word) in answers])

    def test_all_no_and_forty_states(self):
        self.assertEqual(HAS.words_with("new", ["no", "yes"]), Sort.every(DEEDS))
        self.assertEqual(HAS.words_with("found", ["never", "never"]), Sort.nothing(DEEDS))
        machine = Machine(AB, [[(at + 1) % 40, at] for at in range(40)], ["no"] * 39 + ["yes"], new=39)
        self.assertEqual(machine.words_with("new", ["yes"]).states, 40)
        self.assertEqual(machine.words_with("new", ["yes"]).ends, (0,))
        self.assertEqual(machine.words_with("found", ["yes"]).ends, (39,))

    def test_errors_in_their_order(self):
        for value in STRANGE:
            self.fails(BadBeginning, lambda: HAS.words_with(value, []))
        self.fails(BadAnswers, lambda: HAS.words_with("new", []), 0)
        for value in [value for value in STRANGE if value != "zz"]:
            self.fails(BadAnswers, lambda: HAS.words_with("new", ["yes", value]), 1)
        seven = [f"a{at}" for at in range(7)]
        self.fails(TooMany, lambda: HAS.words_with("new", seven), "answers", 7, 6)
        self.assertEqual(HAS.words_with("new", seven[1:]), Sort.nothing(DEEDS))


if __name__ == "__main__":
    unittest.main()
