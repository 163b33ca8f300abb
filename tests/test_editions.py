import itertools
import random
import unittest

from asksmore.answerers import Answerer
from asksmore.asked import After, Same, State
from asksmore.editions import (common, cuts, first_open, form, holds, irreducible, least_sets, needless, parting,
                               struck_machine, within)
from asksmore.errors import BadBeginning, Impossible, OtherLetters, TooMany, Unfair
from asksmore.halves import menu
from asksmore.histories import History
from asksmore.letters import Letters
from asksmore.machines import Machine
from asksmore.sentences import Limit, Sentence
from asksmore.sorts import Sort
from asksmore.specs import Spec
from tests.fairness import random_test
from tests.listing import Rows, every_limit, histories, random_answerer, random_spec, speaks, spelled
from tests.machines import AB, ABC, live_of
from tests.own import STRANGE, Case, every_sentence, own_struck, sides, words
from tests.test_halves import filled

NO, YES = ["no"], ["yes"]
# The first answers in the order of strings, and more.
SOME_ANSWERS = sorted(["a" + "0" * many for many in range(12)] + ["a" + "a" * many for many in range(12)]
                      + ["b", "b1", "no", "yes", "a1"])


def items_over(source, letters):
    """All state sentences, and limits with few or many answers."""
    found = every_sentence(letters)
    for many in (1, 2, 3):
        found += every_limit(letters, source.sample(["no", "yes", "a", "b1"], many))
    return found


def top_of(spec, beginning, word):
    """The top of a history, by striking letter by letter."""
    return ((beginning,) + own_struck(spec.closing, beginning, word))[-1]


def open_answers(spec, item, beginning, word):
    """The answers that are allowed after a history and that an answer sentence does not have."""
    allowed = spec.allowed(top_of(spec, beginning, word))
    return [answer for answer in (SOME_ANSWERS if allowed is None else allowed) if answer not in item.answers]


def own_parting(spec, item, most=3):
    """The history and the answer of a parting, by listing histories; None if the item follows."""
    if not spec.is_possible():
        return None
    if isinstance(item, Sentence):
        beginning = "new" if item.kind == "still" else "found"
        left, right = [own_struck(spec.closing, beginning, side) for side in sides(item)]
        return None if left == right else (History(spec.letters, beginning), None)
    for beginning, word in histories(spec.letters, most):
        if speaks(item, beginning, word) and open_answers(spec, item, beginning, word):
            return spelled(spec.letters, (beginning, word)), min(open_answers(spec, item, beginning, word))
    return None


def subsets(names):
    """All sets of names, by size, then by the indexes."""
    return [chosen for size in range(len(names) + 1) for chosen in itertools.combinations(names, size)]


class HoldsTest(Case):
    def test_against_listing_histories(self):
        source = random.Random(1)
        seen = set()
        for round_ in range(60):
            letters = AB if round_ % 3 else ABC
            spec = random_spec(source, letters)
            for item in items_over(source, letters):
                wanted = own_parting(spec, item) is None
                self.assertIs(holds(spec, item), wanted)
                seen.add((item.kind, wanted, spec.is_possible()))
        kinds = ("idle", "kept", "still", "over", "undone", "alike", "always", "fresh", "behind")
        self.assertEqual(seen, {(kind, wanted, possible) for kind in kinds for wanted in (True, False)
                                for possible in (True, False) if wanted or possible})

    def test_machines_that_keep_all_keep_what_follows(self):
        source = random.Random(2)
        kept = 0
        for _ in range(500):
            spec = random_spec(source, AB, 2, 2)
            machine = random_answerer(source, AB, 2, ("no", "yes"))
            if spec.admits(machine):
                for item in items_over(source, AB):
                    if holds(spec, item):
                        kept += 1
                        self.assertIsNone(machine.breaks(item))
        self.assertGreater(kept, 300)

    def test_what_does_not_follow_some_answerer_breaks(self):
        source = random.Random(3)
        for _ in range(60):
            spec = random_spec(source, AB, 2, 2)
            for item in items_over(source, AB):
                found = own_parting(spec, item)
                if found is not None:
                    history, answer = found
                    tops = {top: (spec.allowed(top) or ["zz"])[0] for top in ["new", "found"] + live_of(spec.closing)}
                    if answer is not None:
                        tops[top_of(spec, history.beginning, history.word())] = answer
                    program = Answerer(spec.closing, tops)
                    self.assertTrue(spec.admits(program))
                    self.assertIsNotNone(program.breaks(item))

    def test_any_answer_is_allowed(self):
        spec = Spec(AB)
        self.assertFalse(holds(spec, Limit(AB, "fresh", NO)))
        self.assertTrue(holds(filled(Limit(AB, "always", NO)), Limit(AB, "behind", NO, "b")))
        self.assertFalse(holds(filled(Limit(AB, "behind", NO, "a")), Limit(AB, "always", NO)))

    def test_other_letters(self):
        for spec in (Spec(AB), filled(Limit(AB, "fresh", NO), Limit(AB, "fresh", YES))):
            self.fails(OtherLetters, lambda: holds(spec, Sentence(ABC, "idle", "a")))
            self.fails(OtherLetters, lambda: holds(spec, Limit(Letters(["b", "a"]), "always", NO)))


class PartingTest(Case):
    def test_against_listing_histories(self):
        source = random.Random(4)
        seen = set()
        for round_ in range(250):
            letters = AB if round_ % 3 else ABC
            one, other = random_spec(source, letters, 2, 2), random_spec(source, letters, 2, 3)
            before = one.entries, other.entries
            wanted = None
            for name, item in other.entries:
                found = own_parting(one, item)
                if found is not None:
                    wanted = (name, *found)
                    break
            shown = parting(one, other)
            self.assertEqual(shown, wanted)
            self.assertIs(within(one, other), wanted is None)
            self.assertEqual((one.entries, other.entries), before)
            seen.add(wanted and (other[wanted[0]].kind, wanted[1].beginning, wanted[1].size, wanted[2] is None))
        self.assertLessEqual({("behind", "new", 1, False), ("fresh", "new", 0, False), ("always", "found", 0, False),
                              ("still", "new", 0, True), ("kept", "found", 0, True), None}, seen)

    def test_one_sentence_against_listing_histories(self):
        source = random.Random(5)
        sizes = set()
        for _ in range(150):
            one = random_spec(source, AB, 2, 2)
            one["all"] = Limit(AB, "always", ["no", "yes"])
            one["one"] = source.choice([Limit(AB, "fresh", NO), Limit(AB, "behind", NO, "b"), Limit(AB, "always", NO)])
            for item in items_over(source, AB):
                wanted = own_parting(one, item)
                self.assertEqual(parting(one, filled(item)), wanted and ("s0", *wanted))
                if wanted and isinstance(item, Limit):
                    sizes.add((item.kind, wanted[0].beginning, wanted[0].size))
        self.assertLessEqual({("behind", "new", 1), ("behind", "found", 1), ("always", "new", 0), ("fresh", "new", 0),
                              ("always", "found", 0)}, sizes)

    def test_first_strings(self):
        words_ = ["a", "a0", "a00", "a000", "a0000", "a00000"]
        for many in range(1, 7):
            found = parting(Spec(AB), filled(Limit(AB, "always", words_[:many])))
            self.assertEqual(found, ("s0", History(AB, "new"), "a" + "0" * many))
        found = parting(Spec(AB), filled(Limit(AB, "behind", ["a", "a00", "aa"], "b")))
        self.assertEqual(found, ("s0", History(AB, "new", [("b", 1)]), "a0"))
        found = parting(Spec(AB), filled(Limit(AB, "fresh", ["b"])))
        self.assertEqual(found, ("s0", History(AB, "new"), "a"))

    def test_the_first_name_counts(self):
        one = filled(Sentence(AB, "kept", "a", "a"))
        other = Spec(AB)
        for name, item in (("z", Sentence(AB, "kept", "a", "a")), ("y", Limit(AB, "fresh", NO)),
                           ("x", Sentence(AB, "idle", "a"))):
            other[name] = item
        self.assertEqual(parting(one, other), ("y", History(AB, "new"), "a"))
        other.drop("y")
        self.assertEqual(parting(one, other), ("x", History(AB, "found"), None))

    def test_not_possible(self):
        bad = filled(Limit(AB, "fresh", NO), Limit(AB, "fresh", YES))
        other = filled(Sentence(AB, "idle", "a"), Limit(AB, "always", ["a"]))
        self.assertTrue(within(bad, other))
        self.assertIsNone(parting(bad, other))
        self.assertFalse(within(other, bad))
        self.assertEqual(parting(other, bad), ("s0", History(AB, "new"), "a"))

    def test_other_letters(self):
        for action in (within, parting, common):
            self.fails(OtherLetters, lambda: action(Spec(AB), Spec(ABC)))
            self.fails(OtherLetters, lambda: action(Spec(AB), Spec(Letters(["b", "a"]))))


class FormTest(Case):
    def test_equal_exactly_if_each_is_within_the_other(self):
        source = random.Random(6)
        equal = different = 0
        for _ in range(1200):
            one, other = [random_spec(source, AB, 3, 2) for _ in range(2)]
            if one.is_possible() and other.is_possible():
                same = within(one, other) and within(other, one)
                self.assertIs(form(one) == form(other), same)
                equal, different = equal + same, different + (not same)
        self.assertGreater(equal, 10)
        self.assertGreater(different, 100)

    def test_what_it_is(self):
        source = random.Random(7)
        for _ in range(60):
            spec = random_spec(source, ABC)
            tops = ["new", "found"] + live_of(spec.closing)
            wanted = (spec.closing.form(), tuple((top, spec.allowed(top)) for top in tops))
            self.assertEqual(form(spec), wanted if spec.is_possible() else None)

    def test_machines_tell_forms_apart(self):
        source = random.Random(8)
        specs = [random_spec(source, AB, 2, 2) for _ in range(60)]
        machines = [random_answerer(source, AB, 2, ("no", "yes")) for _ in range(40)]
        for one, other in itertools.combinations(specs, 2):
            if form(one) is not None and form(one) == form(other):
                self.assertEqual([one.admits(machine) for machine in machines],
                                 [other.admits(machine) for machine in machines])


class SmallerTest(Case):
    def test_common(self):
        source = random.Random(9)
        for _ in range(40):
            letters = source.choice((AB, ABC))
            one, other = [random_spec(source, letters) for _ in range(2)]
            wanted = [sentence for sentence in menu(letters) if holds(one, sentence) and holds(other, sentence)]
            self.assertIsInstance(common(one, other), list)
            self.assertEqual(common(one, other), wanted)
        bad = filled(Limit(AB, "fresh", NO), Limit(AB, "fresh", YES))
        self.assertEqual(common(bad, bad), list(menu(AB)))
        self.assertEqual(common(Spec(AB), bad), [])

    def test_needless(self):
        source = random.Random(10)
        sizes = set()
        for _ in range(80):
            spec = random_spec(source, AB, 4, 4)
            wanted = tuple(name for name in spec.names
                           if holds(spec.selected([other for other in spec.names if other != name]), spec[name]))
            self.assertEqual(needless(spec), wanted)
            sizes.add(len(wanted))
        self.assertLessEqual({0, 1, 2}, sizes)
        twice = filled(Sentence(AB, "idle", "a"), Limit(AB, "fresh", NO), Sentence(AB, "idle", "a"))
        self.assertEqual(needless(twice), ("s0", "s2"))
        self.assertEqual(needless(Spec(AB)), ())


def asking(source, spec):
    """A function that asks whether a specification is enough, and the specifications that it was called with."""
    called = []
    letters = spec.letters
    test, goal = random_test(source, letters, 2), source.choice(menu(letters))
    fair = source.random() < 0.5

    def is_enough(part):
        """Whether a test is fair, or a sentence follows."""
        called.append(part)
        return part.decide(test).fair if fair else holds(part, goal)
    return is_enough, called


class EnoughTest(Case):
    def test_against_all_sets_of_names(self):
        source = random.Random(11)
        seen = set()
        for _ in range(250):
            spec = random_spec(source, AB, 4, 3)
            is_enough, called = asking(source, spec)
            before = spec.entries
            if not is_enough(spec):
                for action in (irreducible, least_sets, cuts):
                    self.fails(Unfair, lambda: action(spec, is_enough))
                continue
            enough = {part: is_enough(spec.selected(part)) for part in subsets(spec.names)}
            called.clear()
            sets = least_sets(spec, is_enough)
            wanted = [part for part in enough if enough[part] and not any(
                enough[tuple(name for name in part if name != other)] for other in part)]
            self.assertEqual(sets, wanted)
            cut = cuts(spec, is_enough)
            self.assertEqual(cut, [part for part in enough if self.is_cut(enough, spec.names, part)])
            self.assertTrue(all(set(one) & set(other) for one in sets for other in cut))
            self.assertIn(irreducible(spec, is_enough), sets)
            self.assertEqual(irreducible(spec, is_enough), self.own_irreducible(enough, spec.names))
            for part in called:
                self.assertEqual(part.entries, tuple(entry for entry in before if entry in part.entries))
            self.assertEqual(spec.entries, before)
            seen.add((min(len(sets), 2), min(len(cut), 2)))
        self.assertLessEqual({(1, 0), (1, 1), (1, 2), (2, 1), (2, 2)}, seen)

    def is_cut(self, enough, names, part):
        """Whether a set of names is a cut, by its words."""
        left = [name for name in names if name not in part]
        fuller = [tuple(name for name in names if name in left or name == other) for other in part]
        return not enough[tuple(left)] and all(enough[more] for more in fuller)

    def own_irreducible(self, enough, names):
        """The names that are left, by the words of the document."""
        kept = list(names)
        for name in reversed(names):
            fewer = [other for other in kept if other != name]
            if enough[tuple(fewer)]:
                kept = fewer
        return tuple(kept)

    def test_order(self):
        spec = filled(*[Sentence(AB, "idle", x) for x in "abab"])
        target = filled(Sentence(AB, "idle", "a"), Sentence(AB, "idle", "b"))

        def is_enough(part):
            """Whether all letters are idle."""
            return within(part, target)
        self.assertEqual(irreducible(spec, is_enough), ("s0", "s1"))
        self.assertEqual(least_sets(spec, is_enough), [("s0", "s1"), ("s0", "s3"), ("s1", "s2"), ("s2", "s3")])
        self.assertEqual(cuts(spec, is_enough), [("s0", "s2"), ("s1", "s3")])

    def test_nothing_is_needed(self):
        spec = filled(Sentence(AB, "idle", "a"), Limit(AB, "fresh", NO))
        self.assertEqual(irreducible(spec, lambda part: True), ())
        self.assertEqual(least_sets(spec, lambda part: True), [()])
        self.assertEqual(cuts(spec, lambda part: True), [])
        self.assertEqual(least_sets(Spec(AB), lambda part: True), [()])

    def test_a_function_that_changes_what_it_is_handed(self):
        spec = filled(Sentence(AB, "idle", "a"), Limit(AB, "fresh", NO))

        def spoil(part):
            """Say whether the first sentence is there, and take all out."""
            answer = "s0" in part.names
            for name in part.names:
                part.drop(name)
            return answer
        self.assertEqual(irreducible(spec, spoil), ("s0",))
        self.assertEqual(least_sets(spec, spoil), [("s0",)])
        self.assertEqual(cuts(spec, spoil), [("s0",)])
        self.assertEqual(spec.names, ("s0", "s1"))

    def test_many_names(self):
        def has_all(part):
            """Whether the even names are there."""
            return {"s0", "s2"} <= set(part.names)
        eight = filled(*[Limit(AB, "fresh", NO)] * 8)
        nine = filled(*[Limit(AB, "fresh", NO)] * 9)
        self.assertEqual(least_sets(eight, has_all), [("s0", "s2")])
        self.assertEqual(cuts(eight, has_all), [("s0",), ("s2",)])
        self.assertEqual(irreducible(nine, has_all), ("s0", "s2"))
        for action in (least_sets, cuts):
            self.fails(TooMany, lambda: action(nine, has_all), "sentences", 9, 8)
            self.fails(TooMany, lambda: action(nine, lambda part: False), "sentences", 9, 8)
            self.fails(Unfair, lambda: action(eight, lambda part: False))
        self.fails(Unfair, lambda: irreducible(nine, lambda part: False))


class FirstOpenTest(Case):
    def test_against_listing_histories(self):
        source = random.Random(12)
        sizes = set()
        for round_ in range(400):
            letters = AB if round_ % 3 else ABC
            spec = random_spec(source, letters, 3, 3)
            spec["all"] = Limit(letters, "always", ["no", "yes"])
            spec["one"] = Limit(letters, source.choice(("fresh", "always")), NO)
            if source.random() < 0.5:
                spec["one"] = Limit(letters, "behind", NO, source.choice(letters.words))
            for beginning in ("new", "found"):
                if not spec.is_possible():
                    self.fails(Impossible, lambda: first_open(spec, beginning))
                    continue
                wanted = [word for start, word in histories(letters, 4) if start == beginning
                          and len(spec.allowed(top_of(spec, beginning, word))) > 1]
                shown = first_open(spec, beginning)
                self.assertEqual(shown, spelled(letters, (beginning, wanted[0])) if wanted else None)
                sizes.add((beginning, len(wanted[0]) if wanted else None))
        self.assertLessEqual({("new", 0), ("found", 0), ("new", 1), ("new", None), ("found", None)}, sizes)

    def test_any_answer_counts_as_two(self):
        self.assertEqual(first_open(Spec(AB), "new"), History(AB, "new"))
        spec = filled(Limit(AB, "fresh", NO), Limit(AB, "behind", NO, "a"))
        self.assertEqual(first_open(spec, "found"), History(AB, "found"))
        self.assertEqual(first_open(spec, "new"), History(AB, "new", [("b", 1)]))
        self.assertIsNone(first_open(filled(Limit(AB, "always", NO)), "found"))

    def test_a_long_way(self):
        letters = Letters(["d", "b", "a"])
        # From new, a d stays only behind an a, which stays only behind a b.
        told = [Sentence(letters, "still", "d"), Sentence(letters, "still", "a"), Sentence(letters, "over", "b", "d")]
        spec = filled(*told, Limit(letters, "fresh", NO), *[Limit(letters, "behind", NO, x) for x in "ab"],
                      letters=letters)
        self.assertEqual(first_open(spec, "new").word(), ("b", "a", "d"))
        self.assertEqual(first_open(spec, "found").word(), ())

    def test_errors_in_their_order(self):
        bad = filled(Limit(AB, "fresh", NO), Limit(AB, "fresh", YES))
        for value in STRANGE:
            self.fails(BadBeginning, lambda: first_open(bad, value))
        for beginning in ("new", "found"):
            self.fails(Impossible, lambda: first_open(bad, beginning))


def rising(stills, *limits):
    """A specification over five letters of which struck words have ascending letters."""
    letters = Letters(list("abcde"))
    told = [Sentence(letters, "over", x, y) for x in "abcde" for y in "abcde" if x >= y]
    told += [Sentence(letters, "still", y) for y in stills]
    return filled(*told, *[Limit(letters, *limit) for limit in limits], letters=letters)


class StruckMachineTest(Case):
    def test_against_listing_struck_forms(self):
        source = random.Random(13)
        seen = set()
        for round_ in range(300):
            letters = AB if round_ % 3 else ABC
            spec = random_spec(source, letters, 8, 3)
            forms = {beginning: [] for beginning in ("new", "found")}
            for beginning, word in histories(letters, 6 if letters == AB else 5):
                if own_struck(spec.closing, beginning, word) == word:
                    forms[beginning].append(word)
            longest = max(len(word) for word in forms["new"] + forms["found"])
            if longest > 3:
                self.assertIsNone(struck_machine(spec))
            elif not spec.is_possible():
                self.fails(Impossible, lambda: struck_machine(spec))
            else:
                self.assert_struck(spec, [(start, word) for start in ("new", "found") for word in forms[start]])
            seen.add((longest > 3, spec.is_possible()))
        self.assertEqual(seen, set(itertools.product((True, False), repeat=2)))

    def assert_struck(self, spec, forms):
        """The machine has these forms as states, in this order, and keeps the specification."""
        machine = struck_machine(spec)
        own = Rows(machine)
        self.assertIsInstance(machine, Machine)
        self.assertEqual((machine.letters, machine.states), (spec.letters, len(forms)))
        for at, (beginning, word) in enumerate(forms):
            self.assertEqual(own.state(beginning, word), at)
            allowed = spec.allowed(((beginning,) + word)[-1])
            self.assertEqual(machine.answers[at], "a" if allowed is None else allowed[0])
        for beginning, word in histories(spec.letters, 4):
            form_ = beginning, own_struck(spec.closing, beginning, word)
            self.assertEqual(own.state(beginning, word), forms.index(form_))
        self.assertTrue(spec.admits(machine))

    def test_infinitely_many(self):
        self.assertIsNone(struck_machine(Spec(AB)))
        self.assertIsNone(struck_machine(filled(Limit(AB, "fresh", NO), Limit(AB, "fresh", YES))))
        stills = [Sentence(AB, "still", x) for x in "ab"]
        self.assertIsNone(struck_machine(filled(*stills)))

    def test_forty_states(self):
        machine = struck_machine(rising("ab", ("always", ["yes", "no"])))
        self.assertEqual((machine.states, machine.new, machine.found), (40, 0, 8))
        self.assertEqual(set(machine.answers), {"no"})

    def test_more_than_forty(self):
        self.fails(TooMany, lambda: struck_machine(rising("acde")), "states", 41, 40)
        self.fails(TooMany, lambda: struck_machine(rising("")), "states", 64, 40)
        self.fails(Impossible, lambda: struck_machine(rising("", ("fresh", NO), ("fresh", YES))))

    def test_answers(self):
        spec = rising("ab", ("behind", ["z", "b"], "c"), ("fresh", ["q"]))
        machine = struck_machine(spec)
        self.assertEqual(machine(History(spec.letters, "new")), "q")
        self.assertEqual(machine(History(spec.letters, "found")), "a")
        self.assertEqual(machine(History(spec.letters, "found", [("a", 5), ("c", 10 ** 30)])), "b")
        self.assertEqual(machine(History(spec.letters, "new", [("d", 1)])), "a")


class AgreeTest(Case):
    def test_fair_tests_stay_fair_within(self):
        source = random.Random(14)
        agreed = 0
        for _ in range(300):
            one, other = random_spec(source, AB, 3, 2), random_spec(source, AB, 1, 1)
            if within(one, other):
                test = random_test(source, AB, 2)
                if other.decide(test).fair:
                    agreed += 1
                    self.assertTrue(one.decide(test).fair)
        self.assertGreater(agreed, 20)

    def test_sentences_are_tests(self):
        source = random.Random(15)
        every = Sort.every(AB)
        for _ in range(60):
            spec = random_spec(source, AB)
            for sentence in menu(AB):
                left, right = sides(sentence)
                starts = ["new"] if sentence.kind == "still" else ["new", "found"]
                sort = Sort.only(AB, []) if sentence.kind == "still" else every
                fair = all(spec.decide(State(start, sort, left, right)).fair for start in starts)
                self.assertIs(holds(spec, sentence), fair)
                self.assertTrue(fair <= all(spec.decide(Same(start, sort, left, right)).fair for start in starts))
            for limit in every_limit(AB, ["no", "yes"]):
                sort = every if limit.kind == "always" else Sort.only(AB, [])
                if limit.kind == "behind":
                    sort = Sort.ending(AB, limit.letter)
                starts = ["new"] if limit.kind == "fresh" else ["new", "found"]
                fair = all(spec.decide(After(start, sort, limit.answers)).fair for start in starts)
                self.assertIs(holds(spec, limit), fair)


if __name__ == "__main__":
    unittest.main()
