import itertools
import random
import unittest

from asksmore.allowed import allowed, barred, conflict
from asksmore.asked import After, Same, State
from asksmore.closing import close
from asksmore.errors import BadTold, OtherLetters, TooLong, TooMany
from asksmore.histories import History
from asksmore.letters import Letters
from asksmore.sentences import Limit, Sentence
from asksmore.sorts import Sort
from asksmore.verdicts import decide, is_paper
from tests.fairness import (ANSWERS, ROWS_281, ROWS_301, TWO, fails, is_right_at, keeps_limits, keeps_told,
                            own_top_sizes, passes, random_case, reached_states, two_pushes, two_state_machines)
from tests.machines import AB, listed
from tests.own import STRANGE, Case

DEEDS = Letters(["push", "pop"])
STACK = close(DEEDS, [Sentence(DEEDS, "undone", "push", "pop"), Sentence(DEEDS, "still", "pop")])


class FairnessTest(Case):
    def test_against_all_words(self):
        source = random.Random(1)
        seen = {}
        for _ in range(900):
            closing, limits, test = random_case(source)
            verdict = decide(closing, limits, test)
            wrong = [word for word in listed(test.domain, 6 if test.letters == AB else 4)
                     if not is_right_at(closing, limits, test, word)]
            key = type(test), bool(barred(closing, limits)), verdict.fair
            seen[key] = seen.get(key, 0) + 1
            if key[1]:
                self.assertTrue(verdict.fair)
            elif wrong:
                self.assertEqual((verdict.fair, verdict.size, verdict.word()), (False, len(wrong[0]), wrong[0]))
            elif not verdict.fair:
                self.assertGreater(verdict.size, 4)
                self.assertIn(verdict.word(), test.domain)
                self.assertFalse(is_right_at(closing, limits, test, verdict.word()))
            self.check_attributes(closing, limits, test, verdict)
        for kind in (After, Same, State):
            for key in ((kind, True, True), (kind, False, True), (kind, False, False)):
                self.assertGreater(seen[key], 20)

    def check_attributes(self, closing, limits, test, verdict):
        """Check what a verdict says of itself, and its answerer."""
        self.assertIs(verdict.closing, closing)
        self.assertEqual((verdict.limits, verdict.test), (tuple(limits), test))
        self.assertEqual(verdict.conflict, conflict(closing, limits))
        self.assertIsInstance(verdict.fair, bool)
        if verdict.fair:
            self.assertEqual((verdict.size, verdict.word(), verdict.answerer()), (None, None, None))
            self.assertEqual(verdict.paper() is None, verdict.conflict is not None)
            return
        self.assertIsNone(verdict.paper())
        self.check_answerer(verdict)

    def check_answerer(self, verdict):
        """Check that the answerer keeps all sentences and fails the test at the told word."""
        answerer = verdict.answerer()
        self.assertIs(answerer.closing, verdict.closing)
        for sentence in verdict.closing.told + verdict.limits:
            self.assertIsNone(answerer.breaks(sentence))
        self.assertTrue(fails(answerer, verdict.test, verdict.word()))

    def test_sentences_in_other_words(self):
        source = random.Random(2)
        for _ in range(150):
            closing, limits, test = random_case(source)
            verdict = decide(closing, limits, test)
            told = list(closing.told)
            for other in (told + list(closing.form()), told[::-1], told * 2, closing.form()):
                for rest in (limits, limits[::-1], limits * 2):
                    again = decide(close(closing.letters, other), rest, test)
                    self.assertEqual((again.fair, again.size, again.word()),
                                     (verdict.fair, verdict.size, verdict.word()))

    def test_equal_calls(self):
        source = random.Random(3)
        for _ in range(60):
            closing, limits, test = random_case(source)
            one = decide(closing, limits, test)
            other = decide(close(closing.letters, closing.told), tuple(limits), test)
            self.assertEqual((one.fair, one.size, one.word(), one.paper(), one.conflict),
                             (other.fair, other.size, other.word(), other.paper(), other.conflict))
            if not one.fair:
                self.assertEqual((one.answerer().tops, one.answerer().special),
                                 (other.answerer().tops, other.answerer().special))

    def test_machines_of_two_states(self):
        source = random.Random(4)
        fair, failed = 0, 0
        for _ in range(150):
            closing, limits, test = random_case(source, 3)
            if test.letters != AB:
                continue
            verdict = decide(closing, limits, test)
            for maps, new, found in two_state_machines(AB):
                if not keeps_told(closing.told, maps, new, found):
                    continue
                start = new if test.beginning == "new" else found
                for answers in itertools.product(ANSWERS, repeat=2):
                    if keeps_limits(limits, maps, new, found, answers):
                        self.assertFalse(barred(closing, limits))
                        is_passed = passes(test, maps, start, answers)
                        fair += verdict.fair
                        failed += not is_passed
                        self.assertTrue(is_passed or not verdict.fair)
                        for state in reached_states(maps, new, found):
                            self.assertIn(answers[state], ANSWERS)
        self.assertGreater(min(fair, failed), 200)

    def test_limits_that_say_nothing(self):
        for test in (After("new", Sort.only(AB, ["a"]), ["a"]), After("found", Sort.every(AB), list("abcdef"))):
            verdict = decide(close(AB, []), [], test)
            self.assertFalse(verdict.fair)
            self.check_answerer(verdict)
        self.assertTrue(decide(close(AB, []), [], After("new", Sort.nothing(AB), ["a"])).fair)
        limits = [Limit(AB, "fresh", ["no"])]
        self.assertTrue(decide(close(AB, []), limits, After("new", Sort.only(AB, []), ["no"])).fair)
        self.assertFalse(decide(close(AB, []), limits, After("found", Sort.only(AB, []), ["no"])).fair)

    def test_something_is_barred(self):
        limits = [Limit(AB, "behind", ["no"], "b"), Limit(AB, "always", ["yes"])]
        for test in (After("new", Sort.every(AB), ["x"]), Same("found", Sort.every(AB), [], ["a"]),
                     State("new", Sort.only(AB, ["a"]), ["b"], ["a"])):
            verdict = decide(close(AB, []), limits, test)
            self.assertTrue(verdict.fair)
            self.assertEqual(verdict.conflict, conflict(close(AB, []), limits))
            self.assertEqual(verdict.conflict[0], "b")
            self.assertEqual((verdict.size, verdict.word(), verdict.answerer(), verdict.paper()), (None,) * 4)

    def test_one_answer_by_two_limits(self):
        limits = [Limit(AB, "behind", ["no", "yes"], "a"), Limit(AB, "always", ["no", "x"])]
        test = Same("new", Sort(AB, [(0, "b", 0)], [0]), ["a"], ["b", "a"])
        self.assertEqual(allowed(close(AB, []), limits, "a"), ("no",))
        self.assertTrue(decide(close(AB, []), limits, test).fair)
        self.assertFalse(decide(close(AB, []), limits, State("new", test.domain, test.one, test.other)).fair)
        self.assertFalse(decide(close(AB, []), limits[:1], test).fair)
        other = Same("new", test.domain, ["a"], ["b"])
        self.assertEqual(decide(close(AB, []), limits, other).word(), ())
        both = [Limit(AB, "behind", ["no"], "a"), Limit(AB, "behind", ["yes"], "b")]
        self.assertEqual(decide(close(AB, []), both, other).word(), ())
        self.check_answerer(decide(close(AB, []), both, other))

    def test_example(self):
        limits = [Limit(DEEDS, "fresh", ["no"]), Limit(DEEDS, "behind", ["no", "yes"], "push")]
        verdict = decide(STACK, limits, Same("new", Sort.every(DEEDS), ["pop"], ["pop", "pop"]))
        self.assertEqual([verdict.fair, verdict.word(), verdict.size], [False, ("push", "push"), 2])
        self.check_answerer(verdict)

    def test_arguments_are_copied(self):
        limits = [Limit(DEEDS, "fresh", ["no"])]
        verdict = decide(STACK, limits, After("new", Sort.only(DEEDS, []), ["no"]))
        limits.append(Limit(DEEDS, "fresh", ["yes"]))
        self.assertEqual(len(verdict.limits), 1)
        self.assertTrue(is_paper(STACK, limits[:1], verdict.test, verdict.paper()))


class LongWordsTest(Case):
    """Tests that fail first behind words that are far longer than any list of words."""

    def verdicts(self, rows, end, far):
        """Verdicts about tests that fail where a push of b is on top at an end, or after a further h if it is far."""
        closing, sort = two_pushes(), Sort(TWO, rows, [end])
        self.assertEqual((sort.states, sort.rows), (12, tuple(rows)))
        one, other = (["h", "h"], ["h"]) if far else (["h"], [])
        limits = [Limit(TWO, "fresh", ["x"]), Limit(TWO, "behind", ["x", "y"], "a"), Limit(TWO, "behind", ["x"], "a")]
        tests = [(limits, State("new", sort, one, other)), ([], Same("new", sort, one, other)),
                 (limits, Same("new", sort, other, one))]
        if not far:
            tests.append((limits, After("new", sort, ["z", "x"])))
        return [decide(closing, rest, test) for rest, test in tests]

    def check(self, verdict, size):
        """Check the size and what depends on it."""
        self.assertEqual((verdict.fair, verdict.size, verdict.paper()), (False, size, None))
        if size > 300:
            self.fails(TooLong, lambda: verdict.word(), size)
        else:
            word = verdict.word()
            self.assertEqual((len(word), word in verdict.test.domain), (size, True))
            self.assertFalse(is_right_at(verdict.closing, verdict.limits, verdict.test, word))
        if size > 280:
            self.fails(TooLong, lambda: verdict.answerer(), size)
        else:
            FairnessTest.check_answerer(self, verdict)

    def test_sizes(self):
        for rows, size in ((ROWS_281, 281), (ROWS_301, 301)):
            self.assertEqual(own_top_sizes(two_pushes(), Sort(TWO, rows, [9]), "new")[9, "b"], size)
            for verdict in self.verdicts(rows, 9, False):
                self.check(verdict, size)
            # State 9 is entered from state 8 by h alone.
            for verdict in self.verdicts(rows, 8, True):
                self.check(verdict, size - 1)

    def test_other_ends(self):
        sizes = own_top_sizes(two_pushes(), Sort(TWO, ROWS_301, [9]), "new")
        for end in (0, 3, 5, 7, 8, 10, 11):
            for verdict in self.verdicts(ROWS_301, end, False):
                self.check(verdict, sizes[end, "b"])


class DecideErrorsTest(Case):
    def test_errors(self):
        good = Limit(DEEDS, "always", ["no"])
        strange = Limit(AB, "always", ["no"])
        thirteen, other = Sort.only(DEEDS, ["push"] * 12), Sort.only(AB, ["a"] * 12)
        for test in (lambda sort: After("new", sort, ["no"]), lambda sort: Same("found", sort, [], []),
                     lambda sort: State("new", sort, [], [])):
            for action in (decide, lambda closing, limits, told: is_paper(closing, limits, told, None)):
                self.fails(TooMany, lambda: action(STACK, [strange] * 61, test(other)), "sentences", 61, 60)
                for value in STRANGE + [strange, Sentence(DEEDS, "idle", "push")]:
                    self.fails(BadTold, lambda: action(STACK, [good, value, None], test(other)), 1)
                self.fails(OtherLetters, lambda: action(STACK, [good] * 60, test(other)))
                self.fails(TooMany, lambda: action(STACK, [good] * 60, test(thirteen)), "states", 13, 12)
                self.fails(TooMany, lambda: action(STACK, [good, Limit(DEEDS, "always", ["yes"])], test(thirteen)),
                           "states", 13, 12)
            self.assertTrue(decide(STACK, [good] * 60, test(Sort.only(DEEDS, ["push"] * 11))).fair)


if __name__ == "__main__":
    unittest.main()
