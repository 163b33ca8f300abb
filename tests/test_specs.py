import itertools
import random
import unittest
from unittest import mock

from asksmore.allowed import allowed, barred
from asksmore.answerers import Answerer
from asksmore.asked import After, Same
from asksmore.chains import is_rows
from asksmore.closing import close
from asksmore.completing import Completion
from asksmore.errors import BadName, BadTop, Known, OtherLetters, TooMany, Unknown
from asksmore.letters import Letters
from asksmore.machines import Machine
from asksmore.sentences import Limit, Sentence
from asksmore.sorts import Sort
from asksmore.specs import Spec
from asksmore.verdicts import decide
from tests.fairness import random_test
from tests.listing import Rows, histories, random_answerer, random_spec, spelled
from tests.machines import AB, ABC, live_of
from tests.own import STRANGE, Case, random_told
from tests.test_allowed import NO_TOPS, random_limits

DEEDS = Letters(["push", "pop"])
IDLE = Sentence(AB, "idle", "a")
STILL = Sentence(AB, "still", "b")
ALIKE = Sentence(AB, "alike", "a", "b")
FRESH = Limit(AB, "fresh", ["no"])
ALWAYS = Limit(AB, "always", ["no", "yes"])
NO_NAMES = [value for value in STRANGE if value != "zz"] + ["A", "a-b", "1a", "~a", "a" * 13, " a", "a\n", "\u00e9"]


def filled(*entries, letters=AB):
    """A specification with these entries."""
    spec = Spec(letters)
    for name, item in entries:
        spec[name] = item
    return spec


def shown(spec):
    """All that a specification shows of its entries."""
    return (spec.letters, spec.entries, spec.names, spec.limits, spec.closing.told, spec.closing.form(), len(spec))


def wanted(letters, entries):
    """What a specification with these entries must show."""
    told = tuple(item for name, item in entries if isinstance(item, Sentence))
    limits = tuple(item for name, item in entries if isinstance(item, Limit))
    return (letters, tuple(entries), tuple(name for name, item in entries), limits, told,
            close(letters, told).form(), len(entries))


class Boom(Exception):
    """An error of a caller."""


class EntriesTest(Case):
    def test_example(self):
        spec = Spec(DEEDS)
        spec["a"] = Sentence(DEEDS, "undone", "push", "pop")
        spec["c"] = Limit(DEEDS, "fresh", ["empty"])
        self.assertEqual([spec.names, spec.allowed("new"), spec.allowed("found"), len(spec.joined(spec))],
                         [("a", "c"), ("empty",), None, 2])

    def test_empty(self):
        spec = Spec(AB)
        self.assertEqual(shown(spec), (AB, (), (), (), (), (), 0))
        self.assertTrue(spec.is_possible())

    def test_items_under_new_names_and_names_that_are_there(self):
        source = random.Random(1)
        for _ in range(60):
            spec, entries = Spec(ABC), {}
            for _ in range(source.randrange(12)):
                item = source.choice(random_told(source, ABC, 2) + random_limits(source, ABC, 2))
                name = source.choice(["a", "b", "new", "found", "deed", "a1", "z" * 12])
                if source.random() < 0.3 and name in entries:
                    del entries[name]
                    spec.drop(name)
                else:
                    spec[name] = entries[name] = item
                self.assertEqual(shown(spec), wanted(ABC, list(entries.items())))
                for known in entries:
                    self.assertIs(spec[known], entries[known])

    def test_a_dropped_name_comes_back_at_the_end(self):
        spec = filled(("a", IDLE), ("b", FRESH), ("c", STILL))
        spec.drop("a")
        spec["a"] = ALWAYS
        self.assertEqual(spec.entries, (("b", FRESH), ("c", STILL), ("a", ALWAYS)))
        spec["b"] = ALIKE
        self.assertEqual((spec.names, spec.limits, spec.closing.told), (("b", "c", "a"), (ALWAYS,), (ALIKE, STILL)))

    def test_one_item_under_two_names(self):
        spec = filled(("a", IDLE), ("b", IDLE), ("c", FRESH), ("d", FRESH))
        self.assertEqual((spec.closing.told, spec.limits), ((IDLE, IDLE), (FRESH, FRESH)))

    def test_sixty_names(self):
        spec = filled(*[(f"s{at}", IDLE if at % 2 else FRESH) for at in range(60)])
        before = shown(spec)
        self.fails(TooMany, lambda: spec.__setitem__("more", IDLE), "sentences", 61, 60)
        self.fails(TooMany, lambda: spec.__setitem__("more", FRESH), "sentences", 61, 60)
        self.assertEqual(shown(spec), before)
        spec["s7"] = FRESH
        self.assertEqual((len(spec), spec["s7"]), (60, FRESH))
        spec.drop("s0")
        spec["more"] = IDLE
        self.assertEqual((len(spec), spec.names[-1]), (60, "more"))

    def test_wrong_names_and_letters(self):
        full = filled(*[(f"s{at}", IDLE) for at in range(60)])
        other = Sentence(ABC, "idle", "a")
        for spec in (Spec(AB), filled(("a", IDLE)), full):
            before = shown(spec)
            for value in NO_NAMES:
                self.fails(BadName, lambda: spec.__setitem__(value, other), value)
            for name in ("a", "b", "s1"):
                self.fails(OtherLetters, lambda: spec.__setitem__(name, other))
                self.fails(OtherLetters, lambda: spec.__setitem__(name, Limit(ABC, "fresh", ["no"])))
            self.assertEqual(shown(spec), before)

    def test_unknown_names(self):
        spec = filled(("a", IDLE), ("b", FRESH))
        before = shown(spec)
        for value in STRANGE + ["c", "A", "a ", "new"]:
            self.fails(Unknown, lambda: spec[value], value)
            self.fails(Unknown, lambda: spec.drop(value), value)
            self.fails(Unknown, lambda: spec.selected(["a", value, "c"]), value)
        self.assertEqual(shown(spec), before)

    def test_not_iterated_over(self):
        spec = filled(("a", IDLE))
        for action in (iter, list, lambda value: "a" in value, lambda value: [*value], dict):
            with self.assertRaises(TypeError):
                action(spec)

    def test_entries_that_were_taken_stay(self):
        spec = filled(("a", IDLE))
        names, entries, closing, limits = spec.names, spec.entries, spec.closing, spec.limits
        spec["b"] = FRESH
        spec["a"] = STILL
        self.assertEqual((names, entries, limits), (("a",), (("a", IDLE),), ()))
        self.assertEqual(closing.told, (IDLE,))


def overwriting(words):
    """Letters, and for each pair of them the sentence that the second one overwrites the first one."""
    letters = Letters(list(words))
    return letters, [Sentence(letters, "kept" if x == y else "over", x, y) for x in letters for y in letters]


def overwritten(told):
    """The closed form of such sentences: what is overwritten twice is overwritten by the last one, too."""
    pairs = {(sentence.first, sentence.second) for sentence in told}
    while True:
        more = {(x, z) for (x, y), (other, z) in itertools.product(pairs, pairs) if y == other} - pairs
        if not more:
            return [f"kept {x} {y}" if x == y else f"over {x} {y}" for x, y in sorted(pairs)]
        pairs |= more


class FillingTest(Case):
    """Specifications that are filled sentence by sentence."""

    def check(self, spec, entries):
        """What is shown is what one closing of all sentences in their order shows."""
        self.assertEqual(shown(spec), wanted(spec.letters, entries))
        told = [item for _, item in entries if isinstance(item, Sentence)]
        self.assertEqual(spec.closing.rows, close(spec.letters, told).rows)
        self.assertTrue(is_rows(spec.letters, told, spec.closing.rows))

    def test_one_overwrites_the_other(self):
        letters, sentences = overwriting("abcdefg")
        spec, entries = Spec(letters), []
        for at, sentence in enumerate(sentences):
            spec[f"n{at}"] = sentence
            entries.append((f"n{at}", sentence))
            self.check(spec, entries)
            self.assertEqual([str(part) for part in spec.closing.form()], overwritten(sentences[:at + 1]))
        self.assertEqual(spec.closing.form(), tuple(sentences))
        spec.drop("n7")
        self.check(spec, entries[:7] + entries[8:])
        spec["n7"] = sentences[7]
        self.check(spec, entries[:7] + entries[8:] + entries[7:8])
        spec["n48"] = Sentence(letters, "alike", "a", "g")
        self.check(spec, entries[:7] + entries[8:48] + [("n48", spec["n48"])] + entries[7:8])

    def test_in_any_order_and_of_any_kinds(self):
        source = random.Random(28)
        for turn in range(30):
            letters, told = overwriting("abcdefgh"[:source.randint(2, 8)])
            if turn % 2:
                told = random_told(source, letters, source.randint(1, 40))
            told = source.sample(told, min(len(told), 60))
            spec, entries = Spec(letters), []
            for at, sentence in enumerate(told):
                spec[f"n{at}"] = sentence
                entries.append((f"n{at}", sentence))
                self.check(spec, entries)

    def test_changes_on_the_way(self):
        source = random.Random(15)
        for _ in range(12):
            letters, told = overwriting("abcd")
            told += random_told(source, letters, 20)
            source.shuffle(told)
            spec, entries, aside = Spec(letters), {}, []
            for at, sentence in enumerate(told):
                spec[f"n{at}"] = entries[f"n{at}"] = sentence
                name = source.choice(list(entries))
                if at % 4 == 1:
                    spec[name] = entries[name] = source.choice(told)
                elif at % 4 == 2:
                    del entries[name]
                    spec.drop(name)
                elif at % 4 == 3:
                    aside.append((spec, dict(entries)))
                    spec = spec.copy()
                self.fail_in_a_trial(spec, told[:3])
                self.check(spec, list(entries.items()))
            for other, kept in aside:
                self.check(other, list(kept.items()))

    def fail_in_a_trial(self, spec, told):
        """A trial that tells more, sees that it counts, and fails."""
        def action(handed):
            """Tell more and fail."""
            for at, sentence in enumerate(told):
                handed[f"t{at}"] = sentence
                self.check(handed, handed.entries)
                self.assertEqual(handed.closing.told[-1], sentence)
            raise Boom()
        for call in (spec.trial, spec.attempt):
            with self.assertRaises(Boom):
                call(action)

    def test_two_go_on_from_one(self):
        letters, told = overwriting("abc")
        one = Spec(letters)
        one["n"] = told[1]
        other = one.copy()
        one["m"] = told[5]
        other["m"] = Sentence(letters, "idle", "b")
        one["k"], other["k"] = told[3], told[8]
        self.check(one, [("n", told[1]), ("m", told[5]), ("k", told[3])])
        self.check(other, [("n", told[1]), ("m", Sentence(letters, "idle", "b")), ("k", told[8])])

    def test_each_sentence_is_taken_in_once(self):
        letters, told = overwriting("abcdefg")
        spec, taken = Spec(letters), []
        take = Completion.take

        def counted(completion, sentence):
            """Take in a sentence and count it."""
            taken.append(sentence)
            take(completion, sentence)
        with mock.patch.object(Completion, "take", counted):
            for at, sentence in enumerate(told):
                spec[f"n{at}"] = sentence
            spec["limit"] = Limit(letters, "always", ["no", "yes"])
            spec["limit"] = Limit(letters, "always", ["no"])
            spec.copy().drop("limit")
            spec.trial(lambda handed: handed.drop("limit"))
        self.assertEqual(taken, told)


class CopiesTest(Case):
    def test_copy_is_apart_both_ways(self):
        spec = filled(("a", IDLE), ("b", FRESH))
        copy = spec.copy()
        self.assertEqual(shown(copy), shown(spec))
        spec["c"] = STILL
        copy.drop("a")
        self.assertEqual(shown(spec), wanted(AB, [("a", IDLE), ("b", FRESH), ("c", STILL)]))
        self.assertEqual(shown(copy), wanted(AB, [("b", FRESH)]))

    def test_selected_keeps_the_order(self):
        source = random.Random(2)
        for _ in range(40):
            spec = random_spec(source, ABC, 4, 4)
            names = [name for name in spec.names if source.random() < 0.5]
            mixed = names + source.sample(names, min(1, len(names)))
            source.shuffle(mixed)
            part = spec.selected(mixed)
            self.assertEqual(shown(part), wanted(ABC, [(name, spec[name]) for name in names]))
            if names:
                part.drop(names[0])
                self.assertIn(names[0], spec.names)
        self.assertEqual(spec.selected(spec.names).entries, spec.entries)
        self.assertEqual(len(spec.selected([])), 0)

    def test_joined(self):
        one = filled(("a", IDLE), ("b", FRESH))
        other = filled(("c", STILL), ("b", Limit(AB, "fresh", ["no", "no"])), ("d", ALWAYS))
        both = one.joined(other)
        self.assertEqual(shown(both), wanted(AB, [("a", IDLE), ("b", FRESH), ("c", STILL), ("d", ALWAYS)]))
        both["e"] = ALIKE
        both.drop("a")
        self.assertEqual((len(one), len(other)), (2, 3))
        self.assertEqual(other.joined(one).names, ("c", "b", "d", "a"))
        self.assertEqual(one.joined(Spec(AB)).entries, one.entries)

    def test_joined_errors(self):
        one = filled(("a", IDLE), ("b", FRESH), ("c", STILL))
        self.fails(OtherLetters, lambda: one.joined(Spec(ABC)))
        self.fails(OtherLetters, lambda: one.joined(Spec(Letters(["b", "a"]))))
        self.fails(Known, lambda: one.joined(filled(("x", IDLE), ("c", IDLE), ("a", IDLE), ("b", ALWAYS))), "c")
        self.fails(Known, lambda: one.joined(filled(("a", FRESH))), "a")
        many = filled(*[(f"s{at}", FRESH) for at in range(57)])
        self.assertEqual(len(one.joined(many)), 60)
        many["c"] = STILL
        self.assertEqual(len(one.joined(many)), 60)
        many["d"] = STILL
        self.fails(TooMany, lambda: one.joined(many), "sentences", 61, 60)
        many["b"] = ALWAYS
        self.fails(Known, lambda: one.joined(many), "b")
        full = filled(*[(f"s{at}", FRESH) for at in range(60)])
        self.assertEqual(full.joined(full).entries, full.entries)
        self.fails(TooMany, lambda: full.joined(filled(*[(f"t{at}", FRESH) for at in range(60)])), "sentences", 120, 60)


class DecisionsTest(Case):
    def test_allowed_possible_and_decide(self):
        source = random.Random(3)
        seen = set()
        for _ in range(150):
            letters = source.choice((AB, ABC))
            spec = random_spec(source, letters)
            for top in ["new", "found"] + live_of(spec.closing):
                self.assertEqual(spec.allowed(top), allowed(spec.closing, spec.limits, top))
            self.assertIs(spec.is_possible(), not barred(spec.closing, spec.limits))
            test = random_test(source, letters)
            verdict, other = spec.decide(test), decide(spec.closing, spec.limits, test)
            self.assertEqual((verdict.fair, verdict.size, verdict.word()), (other.fair, other.size, other.word()))
            self.assertEqual((verdict.closing, verdict.limits), (spec.closing, spec.limits))
            seen.add((spec.is_possible(), verdict.fair))
        self.assertEqual(seen, {(True, True), (True, False), (False, True)})

    def test_errors(self):
        spec = filled(("a", ALIKE))
        for top in NO_TOPS + ["b"]:
            self.fails(BadTop, lambda: spec.allowed(top), top)
        self.fails(OtherLetters, lambda: spec.decide(After("new", Sort.every(ABC), ["no"])))
        large = Sort.only(AB, ["a"] * 12)
        self.fails(TooMany, lambda: spec.decide(Same("new", large, [], [])), "states", 13, 12)


class ProgramsTest(Case):
    def test_machines(self):
        source = random.Random(4)
        seen = set()
        for _ in range(400):
            spec = random_spec(source, AB, 2, 2)
            machine = random_answerer(source, AB, source.randrange(1, 4), ("no", "yes"))
            own = Rows(machine)
            broken = [name for name, item in spec.entries if own.first_break(item, 4) is not None]
            self.assertEqual(spec.unkept(machine), broken[0] if broken else None)
            self.assertIs(spec.admits(machine), not broken)
            seen.add((len(spec) > 0, not broken, len(broken) > 1))
        self.assertEqual(seen, {(True, True, False), (True, False, False), (True, False, True), (False, True, False)})

    def test_answerers(self):
        source = random.Random(5)
        seen = set()
        for _ in range(200):
            spec = random_spec(source, AB, 2, 2)
            closing = source.choice((spec.closing, close(AB, random_told(source, AB, 2))))
            tops = {top: source.choice(["no", "yes", "a", "b1"]) for top in ["new", "found"] + live_of(closing)}
            program = Answerer(closing, tops)
            broken = [name for name, item in spec.entries if program.breaks(item) is not None]
            self.assertEqual(spec.unkept(program), broken[0] if broken else None)
            self.assertIs(spec.admits(program), not broken)
            seen.add(not broken)
        self.assertEqual(seen, {True, False})

    def test_other_letters_and_values(self):
        spec = filled(("a", IDLE))
        for program in (Machine(ABC, [[0, 0, 0]], ["no"]), Machine(Letters(["b", "a"]), [[0, 0]], ["no"]),
                        Answerer(close(ABC, []), {"new": "a", "found": "a", "a": "a", "b": "a", "c": "a"})):
            for asked in (spec, Spec(AB)):
                self.assertIs(asked.admits(program), False)
                self.fails(OtherLetters, lambda: asked.unkept(program))
        for value in STRANGE + [spec, Machine, close(AB, []), Sort.every(AB), After("new", Sort.every(AB), ["no"])]:
            self.assertIs(spec.admits(value), False)
            self.assertIs(Spec(AB).admits(value), False)
        self.assertIs(Spec(AB).admits(Machine(AB, [[0, 0]], ["no"])), True)


class TrialTest(Case):
    def test_what_they_return_and_restore(self):
        def action(handed):
            """Change all there is."""
            self.assertIs(handed, spec)
            handed["a"] = ALWAYS
            handed["n"] = ALIKE
            handed.drop("b")
            return shown(handed)

        for is_trial in (True, False):
            spec = filled(("a", IDLE), ("b", FRESH), ("c", STILL))
            before, after = shown(spec), wanted(AB, [("a", ALWAYS), ("c", STILL), ("n", ALIKE)])
            self.assertEqual((spec.trial if is_trial else spec.attempt)(action), after)
            self.assertEqual(shown(spec), before if is_trial else after)

    def test_errors_that_leave_the_action(self):
        def action(handed):
            """Change something and fail."""
            handed.drop("a")
            handed["z"] = STILL
            raise Boom()

        def refused(handed):
            """Fail by a change that is refused."""
            handed.drop("a")
            handed.drop("a")

        spec = filled(("a", IDLE), ("b", FRESH))
        before = shown(spec)
        for call in (spec.trial, spec.attempt):
            with self.assertRaises(Boom):
                call(action)
            self.assertEqual(shown(spec), before)
            self.fails(Unknown, lambda: call(refused), "a")
            self.assertEqual(shown(spec), before)

    def test_within_one_another(self):
        def add(name, then=None):
            """An action that adds an entry, and then goes on."""
            def action(handed):
                handed[name] = FRESH
                return then(handed) if then else handed.names
            return action

        def fail(handed):
            """An action that fails."""
            raise Boom()

        spec = filled(("a", IDLE))
        self.assertEqual(spec.attempt(add("b", lambda handed: handed.trial(add("c")))), ("a", "b", "c"))
        self.assertEqual(spec.names, ("a", "b"))
        self.assertEqual(spec.trial(add("c", lambda handed: handed.attempt(add("d")))), ("a", "b", "c", "d"))
        self.assertEqual(spec.names, ("a", "b"))

        def caught(handed):
            """Add, fail within an attempt, and go on."""
            handed["c"] = STILL
            with self.assertRaises(Boom):
                handed.attempt(add("d", fail))
            return handed.names
        self.assertEqual(spec.attempt(caught), ("a", "b", "c"))
        self.assertEqual(shown(spec), wanted(AB, [("a", IDLE), ("b", FRESH), ("c", STILL)]))
        with self.assertRaises(Boom):
            spec.attempt(add("x", lambda handed: handed.attempt(add("y", fail))))
        self.assertEqual(spec.names, ("a", "b", "c"))

    def test_by_another_name(self):
        spec = filled(("a", IDLE))
        self.assertEqual(spec.trial(lambda _: (spec.drop("a"), len(spec))), (None, 0))
        self.assertEqual(spec.names, ("a",))

    def test_other_errors_restore_too(self):
        spec = filled(("a", IDLE))

        def stop(handed):
            """Leave as a key that is pressed leaves."""
            handed.drop("a")
            raise KeyboardInterrupt()
        for call in (spec.trial, spec.attempt):
            with self.assertRaises(KeyboardInterrupt):
                call(stop)
            self.assertEqual(spec.names, ("a",))


class ManyAnswerersTest(Case):
    def test_admitted_programs_stay_within_what_is_allowed(self):
        source = random.Random(6)
        admitted = 0
        for _ in range(600):
            spec = random_spec(source, AB, 1, 2)
            machine = random_answerer(source, AB, 2, ("no", "yes", "a"))
            if not spec.admits(machine):
                continue
            admitted += 1
            own = Rows(machine)
            tops = {top: spec.allowed(top) for top in ["new", "found"] + live_of(spec.closing)}
            program = Answerer(spec.closing, {top: (tops[top] or ["zz"])[0] for top in tops})
            self.assertTrue(spec.admits(program))
            for beginning, word in histories(AB, 3):
                top = program.state(spelled(AB, (beginning, word))).last
                self.assertIn(own.answer(beginning, word), tops[top] or [own.answer(beginning, word)])
        self.assertGreater(admitted, 60)


if __name__ == "__main__":
    unittest.main()
