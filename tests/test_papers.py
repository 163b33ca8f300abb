import random
import unittest

from asksmore.allowed import allowed
from asksmore.asked import After, Same, State
from asksmore.closing import close
from asksmore.letters import Letters
from asksmore.sentences import Limit, Sentence
from asksmore.sorts import Sort
from asksmore.stands import Stands
from asksmore.verdicts import decide, is_paper
from asksmore.widened import is_closed
from tests.fairness import fair_case, is_own_closed, is_own_ground, is_own_nodes, is_own_tops, random_case
from tests.machines import AB, live_of
from tests.own import STRANGE, Case

DEEDS = Letters(["push", "pop"])
STACK = close(DEEDS, [Sentence(DEEDS, "undone", "push", "pop"), Sentence(DEEDS, "still", "pop")])


class Paper:
    """A test with what its papers are made of."""

    def __init__(self, closing, limits, test):
        self.closing, self.limits, self.test = closing, limits, test
        live, states = live_of(closing), range(test.domain.states)
        self.answers = {top: allowed(closing, limits, top) for top in ["new", "found"] + live}
        self.arrows = [(p, x, q) for p in states for x in [None] + live for q in states]
        if isinstance(test, After):
            self.parts = [[(p, top) for p in states for top in ["new", "found"] + live]]
        else:
            self.stands = Stands(closing, test.one, test.other)
            self.parts = [list(states), [(p, t, s) for p in states for t in [None] + live
                                         for s in range(self.stands.size)]]

    def is_own(self, paper):
        """Whether a value of the right form is a paper, by the words of the document."""
        arrows = [tuple(arrow) for arrow in paper[0]]
        if not is_own_closed(self.closing, self.test.domain, arrows):
            return False
        if isinstance(self.test, After):
            return is_own_tops(self.closing, self.answers, self.test, arrows, [tuple(pair) for pair in paper[1]])
        return (is_own_ground(self.closing, self.test, arrows, paper[1])
                and is_own_nodes(self.closing, self.answers, self.test, self.stands, arrows, paper[1],
                                 [tuple(node) for node in paper[2]]))

    def is_paper(self, paper):
        """What the program says."""
        return is_paper(self.closing, self.limits, self.test, paper)


def some_papers(seed, many, want):
    """Tests that are fair (or not), with a paper or None, over small sorts."""
    source = random.Random(seed)
    found = 0
    while found < many:
        closing, limits, test = fair_case(source) if source.random() < 0.7 else random_case(source, 4)
        verdict = decide(closing, limits, test)
        if want(verdict) and (test.domain.ends or source.random() < 0.1):
            found += 1
            yield source, Paper(closing, limits, test), verdict.paper()


class PapersTest(Case):
    def check(self, case, paper):
        """Compare what the program says of a value with the words of the document."""
        own = case.is_own(paper)
        self.assertIs(case.is_paper(paper), own)
        return own

    def test_papers_of_fair_tests(self):
        kinds = set()
        for _, case, paper in some_papers(1, 150, lambda verdict: verdict.fair and not verdict.conflict):
            kinds.add(type(case.test))
            self.assertIsInstance(paper, tuple)
            self.assertEqual(len(paper), 2 if isinstance(case.test, After) else 3)
            self.assertTrue(all(isinstance(part, tuple) for part in paper))
            for part in paper:
                self.assertEqual(len(part), len(set(part)))
            self.assertTrue(self.check(case, paper))
            self.assertTrue(is_closed(case.closing, case.test.domain, paper[0]))
            self.assertTrue(self.check(case, [list(part)[::-1] for part in paper]))
            self.assertTrue(self.check(case, tuple(part * 2 for part in paper)))
            self.assertTrue(self.check(case, [[list(node) if isinstance(node, tuple) else node for node in part]
                                              for part in paper]))
        self.assertEqual(kinds, {After, Same, State})

    def test_one_element_less(self):
        for _, case, paper in some_papers(2, 120, lambda verdict: verdict.fair and not verdict.conflict):
            for at, part in enumerate(paper):
                for place in range(len(part)):
                    self.assertFalse(self.check(case, paper[:at] + (part[:place] + part[place + 1:],) + paper[at + 1:]))

    def test_one_element_more_or_another(self):
        outcomes = set()
        for source, case, paper in some_papers(3, 80, lambda verdict: verdict.fair and not verdict.conflict):
            for at, every in enumerate([case.arrows] + case.parts):
                part = paper[at]
                for node in source.sample(every, min(len(every), 12)):
                    outcomes.add((at, self.check(case, paper[:at] + (part + (node,),) + paper[at + 1:])))
                    if part:
                        place = source.randrange(len(part))
                        other = part[:place] + (node,) + part[place + 1:]
                        self.check(case, paper[:at] + (other,) + paper[at + 1:])
        self.assertEqual(outcomes, {(at, is_right) for at in (0, 1, 2) for is_right in (True, False)})

    def test_all_arrows_and_all_nodes(self):
        outcomes = set()
        for source, case, paper in some_papers(4, 120, lambda verdict: True):
            whole = [case.arrows] + case.parts
            outcomes.add((paper is not None, self.check(case, whole)))
            for at in range(len(whole)):
                mixed = [whole[place] if paper is None or place == at else paper[place] for place in range(len(whole))]
                self.check(case, mixed)
            # What all arrows lead to is right if the whole is.
            for _ in range(5):
                self.check(case, [source.sample(part, source.randrange(len(part) + 1)) for part in whole])
        self.assertIn((True, False), outcomes)
        self.assertIn((True, True), outcomes)
        self.assertIn((False, False), outcomes)

    def test_tests_that_are_not_fair(self):
        for source, case, _ in some_papers(5, 60, lambda verdict: not verdict.fair):
            self.assertFalse(self.check(case, [case.arrows] + case.parts))
            for other in some_papers(source.randrange(10 ** 6), 3, lambda verdict: verdict.fair and verdict.paper()):
                if type(other[1].test) is type(case.test) and other[1].test.letters == case.test.letters:
                    self.assertFalse(case.is_paper(other[2]))

    def test_where_something_is_barred(self):
        limits = [Limit(AB, "behind", ["no"], "b"), Limit(AB, "always", ["no", "yes"]), Limit(AB, "fresh", ["no"]),
                  Limit(AB, "behind", ["yes"], "a"), Limit(AB, "behind", ["no"], "a")]
        closing = close(AB, [])
        tests = [After("new", Sort(AB, [(0, "b", 0)], [0]), ["no"]), After("new", Sort.every(AB), ["no"]),
                 After("found", Sort(AB, [(0, "b", 0)], [0]), ["no"]), Same("new", Sort.every(AB), ["b"], ["a", "b"]),
                 Same("new", Sort.every(AB), ["b"], ["a"]), State("new", Sort.every(AB), ["b"], ["b"])]
        found = []
        for test in tests:
            self.assertIsNone(decide(closing, limits, test).paper())
            case = Paper(closing, limits, test)
            paper = decide(closing, limits[:4][:3], test).paper()
            found.append(paper is not None and self.check(case, paper))
            self.check(case, [case.arrows] + case.parts)
        self.assertEqual(found, [True, False, False, True, False, True])
        # At a barred top no answer is allowed, so all that are allowed are among those of the test.
        self.assertTrue(self.check(Paper(closing, limits, tests[1]), [[(0, None, 0), (0, "a", 0), (0, "b", 0)],
                                                                     [(0, "new"), (0, "a"), (0, "b")]]))

    def test_both_beginnings_are_tops(self):
        limits = [Limit(DEEDS, "always", ["no"])]
        case = Paper(STACK, limits, After("new", Sort.every(DEEDS), ["no"]))
        paper = decide(STACK, limits, case.test).paper()
        self.assertTrue(self.check(case, (paper[0], paper[1] + ((0, "found"), (0, "pop")))))
        self.assertFalse(self.check(case, (paper[0], paper[1] + ((0, "found"),))))
        only = Paper(STACK, [Limit(DEEDS, "fresh", ["no"])], After("new", Sort.only(DEEDS, []), ["no"]))
        paper = decide(STACK, only.limits, only.test).paper()
        self.assertTrue(self.check(only, paper))
        self.assertFalse(self.check(only, (paper[0], paper[1] + ((0, "found"),))))

    def test_still_letters(self):
        limits = [Limit(DEEDS, "fresh", ["no"])]
        pops = Sort(DEEDS, [(0, "pop", 1), (1, "pop", 2)], [2])
        for made in (lambda beginning: After(beginning, pops, ["no"]),
                     lambda beginning: State(beginning, pops, ["pop"], []),
                     lambda beginning: Same(beginning, pops, ["pop"], [])):
            case, other = Paper(STACK, limits, made("new")), Paper(STACK, limits, made("found"))
            paper = decide(STACK, limits, case.test).paper()
            self.assertTrue(self.check(case, paper))
            self.assertFalse(decide(STACK, limits, other.test).fair)
            self.assertFalse(self.check(other, paper))

    def test_values_that_are_no_papers(self):
        limits = [Limit(DEEDS, "always", ["no", "yes"])]
        after = After("new", Sort.every(DEEDS), ["no", "yes"])
        same = State("new", Sort.every(DEEDS), ["push", "pop"], [])
        for test in (after, same):
            paper = decide(STACK, limits, test).paper()
            self.assertTrue(is_paper(STACK, limits, test, paper))
            for value in STRANGE + [paper + ((),), paper[:-1], paper[::-1], {0: paper[0], 1: paper[1]}, "ab", "abc"]:
                self.assertIs(is_paper(STACK, limits, test, value), False)
            for at in range(len(paper)):
                # An empty ground or an empty list of nodes lacks what is due, as an empty list of arrows does.
                for value in STRANGE + [dict.fromkeys(paper[at], 1), "00"]:
                    self.assertIs(is_paper(STACK, limits, test, paper[:at] + (value,) + paper[at + 1:]), False)
        paper = decide(STACK, limits, after).paper()
        parts = [value for value in STRANGE if value not in (0,) or isinstance(value, bool)]
        for part in parts + [(0,), (0, "new", 0), [0, None], {0: 0, 1: "new"}, "0n"]:
            self.assertIs(is_paper(STACK, limits, after, (paper[0], paper[1] + (part,))), False)
        for state in [None, True, False, -1, 1, 10 ** 31, "0", (), (0,), [], [0]]:
            self.assertIs(is_paper(STACK, limits, after, (paper[0], paper[1] + ((state, "push"),))), False)
        for top in STRANGE + ["a", "newer", 0]:
            self.assertIs(is_paper(STACK, limits, after, (paper[0], list(paper[1]) + [(0, top)])), False)

    def test_values_that_are_no_parts(self):
        limits = [Limit(DEEDS, "always", ["no", "yes"])]
        same = State("new", Sort.every(DEEDS), ["push", "pop"], [])
        arrows, ground, nodes = decide(STACK, limits, same).paper()
        size = Stands(STACK, same.one, same.other).size
        for state in [None, True, False, -1, 1, 10 ** 31, "0", (), (0,), [], [0], {}, {"a": 1}]:
            self.assertIs(is_paper(STACK, limits, same, (arrows, ground + (state,), nodes)), False)
            self.assertIs(is_paper(STACK, limits, same, (arrows, ground, nodes + ((state, None, 0),))), False)
        for letter in [True, False, 0, 1, "", "zz", "new", "found", (), ("push",), [], ["push"], {}, {"a": 1}]:
            self.assertIs(is_paper(STACK, limits, same, (arrows, ground, nodes + ((0, letter, 0),))), False)
        for stand in [None, True, False, -1, size, 10 ** 31, "0", (), (0,), [], [0], {}]:
            self.assertIs(is_paper(STACK, limits, same, (arrows, ground, list(nodes) + [[0, None, stand]])), False)
        for node in STRANGE + [(0, None), (0, None, 0, 0), [0, None], "0n0", {0: 0, 1: None, 2: 0}]:
            self.assertIs(is_paper(STACK, limits, same, (arrows, ground, nodes + (node,))), False)
        self.assertIs(is_paper(STACK, limits, same, [list(arrows), list(ground), [list(node) for node in nodes]]), True)


if __name__ == "__main__":
    unittest.main()
