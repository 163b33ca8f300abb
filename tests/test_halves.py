import random
import unittest

from asksmore.asked import After, Same, State
from asksmore.errors import Impossible, OtherLetters, TooMany
from asksmore.halves import halves, menu
from asksmore.letters import Letters
from asksmore.sentences import Limit, Sentence
from asksmore.sorts import Sort
from asksmore.specs import Spec
from tests.fairness import random_test
from tests.listing import random_spec
from tests.machines import AB, ABC
from tests.own import Case, every_sentence, own_struck, sides

DEEDS = Letters(["push", "pop"])


def own_menu(words):
    """The sentences of the menu by the words of the document."""
    found = [("idle", x) for x in words]
    for first in range(len(words)):
        for second in range(first):
            found.append(("alike", words[first], words[second]))
    found += [("still", y) for y in words]
    for x in words:
        for y in words:
            found.append(("kept", x, y))
            if x != y:
                found.append(("over", x, y))
            found.append(("undone", x, y))
    return [" ".join(part) for part in found]


def follows(spec, sentence):
    """Whether a state sentence follows from a possible specification, by striking letter by letter."""
    beginning = "new" if sentence.kind == "still" else "found"
    left, right = [own_struck(spec.closing, beginning, side) for side in sides(sentence)]
    return left == right


def with_half(spec, sentence):
    """The specification with one more sentence."""
    more = spec.copy()
    more["half"] = sentence
    return more


def own_halves(spec, test):
    """The weakest helping sentences, by trying each one of the menu."""
    if spec.decide(test).fair:
        return []
    helping = []
    for sentence in menu(spec.letters):
        more = with_half(spec, sentence)
        if more.is_possible() and more.decide(test).fair:
            helping.append((sentence, more))
    kept = []
    for one, with_one in helping:
        weaker = [other for other, with_other in helping if follows(with_one, other) and not follows(with_other, one)]
        equal = [other for other, with_other in helping if follows(with_one, other) and follows(with_other, one)]
        if not weaker and equal[0] == one:
            kept.append(str(one))
    return kept


def filled(*items, letters=AB):
    """A specification with these items."""
    spec = Spec(letters)
    for at, item in enumerate(items):
        spec[f"s{at}"] = item
    return spec


class MenuTest(Case):
    def test_against_the_words_of_the_document(self):
        for many in (1, 2, 3, 4):
            letters = Letters(["d", "~d", "b", "a"][:many])
            shown = menu(letters)
            self.assertIsInstance(shown, tuple)
            self.assertEqual([str(sentence) for sentence in shown], own_menu(letters.words))
            self.assertTrue(all(sentence.letters == letters for sentence in shown))

    def test_each_sentence_once(self):
        for letters in (AB, ABC):
            shown = menu(letters)
            for sentence in every_sentence(letters):
                self.assertEqual(sum(sentence == other for other in shown), 1)
        self.assertEqual(len(menu(Letters(list("abcdefghijkl")))), 12 + 66 + 12 + 3 * 144 - 12)


class HalvesTest(Case):
    def test_example(self):
        spec = Spec(DEEDS)
        spec["a"] = Sentence(DEEDS, "undone", "push", "pop")
        found = halves(spec, State("new", Sort.every(DEEDS), ["pop"], ["pop", "pop"]))
        self.assertIsInstance(found, tuple)
        self.assertEqual([str(half) for half in found], ["still push"])

    def test_against_trying_each_sentence(self):
        source = random.Random(1)
        sizes = []
        for round_ in range(260):
            letters = AB if round_ % 4 else ABC
            spec, test = random_spec(source, letters, 2, 2), random_test(source, letters, 2)
            if not spec.is_possible():
                self.fails(Impossible, lambda: halves(spec, test))
                continue
            before = spec.entries
            found = halves(spec, test)
            self.assertEqual([str(half) for half in found], own_halves(spec, test))
            self.assertEqual(spec.entries, before)
            self.assertEqual(spec.closing.told, tuple(item for _, item in before if isinstance(item, Sentence)))
            sizes.append(len(found))
        self.assertLessEqual({0, 1, 2, 3}, set(sizes))

    def test_of_sentences_that_follow_from_one_another_the_first_one(self):
        spec = filled(Sentence(AB, "alike", "a", "b"))
        test = State("found", Sort.every(AB), ["a"], [])
        self.assertEqual([str(half) for half in halves(spec, test)], ["idle a"])
        spec = filled(Sentence(AB, "undone", "a", "b"))
        self.assertEqual([str(half) for half in halves(spec, test)], ["idle a"])
        # Here `undone a a` and `alike b a` say the same.
        found = halves(spec, State("found", Sort.every(AB), ["a", "a"], []))
        self.assertEqual([str(half) for half in found], ["alike b a"])

    def test_a_half_that_makes_the_specification_impossible_does_not_help(self):
        # With `idle a` the answer would have to be both yes and no.
        spec = filled(Limit(AB, "fresh", ["no"]), Limit(AB, "behind", ["yes"], "a"))
        test = State("new", Sort.only(AB, []), ["a"], [])
        self.assertEqual(halves(spec, test), ())
        free = filled(Limit(AB, "fresh", ["no"]))
        self.assertEqual([str(half) for half in halves(free, test)], ["still a"])

    def test_fair_already(self):
        spec = filled(Sentence(AB, "kept", "a", "a"), Limit(AB, "always", ["no"]))
        for test in (After("new", Sort.every(AB), ["no", "yes"]), Same("found", Sort.every(AB), ["a"], ["b"]),
                     State("found", Sort.ending(AB, "a"), ["a"], [])):
            self.assertEqual(halves(spec, test), ())

    def test_no_half_helps(self):
        self.assertEqual(halves(Spec(AB), After("new", Sort.every(AB), ["no"])), ())

    def test_errors_in_their_order(self):
        six, seven = Letters(list("abcdef")), Letters(list("abcdefg"))
        impossible = [Limit(seven, "fresh", ["no"]), Limit(seven, "always", ["yes"])]
        self.fails(OtherLetters, lambda: halves(filled(*impossible, letters=seven), After("new", Sort.every(six), ["a"])))
        self.fails(OtherLetters, lambda: halves(Spec(six), State("new", Sort.only(seven, ["a"] * 12), [], [])))
        large = State("new", Sort.only(seven, ["a"] * 12), [], [])
        self.fails(TooMany, lambda: halves(filled(*impossible, letters=seven), large), "letters", 7, 6)
        self.fails(TooMany, lambda: halves(Spec(seven), State("new", Sort.every(seven), [], [])), "letters", 7, 6)
        bad = filled(Limit(six, "fresh", ["no"]), Limit(six, "always", ["yes"]), letters=six)
        large = State("new", Sort.only(six, ["a"] * 12), [], [])
        self.fails(Impossible, lambda: halves(bad, large))
        self.fails(TooMany, lambda: halves(Spec(six), large), "states", 13, 12)
        self.fails(TooMany, lambda: halves(Spec(six), State("new", Sort.only(six, ["a"] * 13), [], ["a"])),
                   "states", 14, 12)

    def test_six_letters(self):
        six = Letters(list("abcdef"))
        found = halves(Spec(six), State("found", Sort.every(six), ["a", "b"], ["b"]))
        self.assertEqual([str(half) for half in found], ["over a b"])
        found = halves(Spec(six), State("found", Sort.every(six), ["a", "b"], ["a", "c"]))
        self.assertEqual([str(half) for half in found], ["alike c b"])
        found = halves(filled(Sentence(six, "kept", "a", "c"), letters=six),
                       State("new", Sort.every(six), ["a", "b"], ["a", "c"]))
        # Here `alike c b` helps, too, but `kept a b` follows from it.
        self.assertEqual([str(half) for half in found], ["kept a b"])

    def test_fifty_nine_sentences(self):
        spec = filled(*[Sentence(AB, "kept", "a", "a")] * 59)
        found = halves(spec, State("found", Sort.every(AB), ["a", "b"], ["b"]))
        self.assertEqual([str(half) for half in found], ["over a b"])


if __name__ == "__main__":
    unittest.main()
