import random
import unittest

from asksmore.allowed import allowed, barred, conflict, reaches, witness
from asksmore.closing import close
from asksmore.errors import BadLetter, BadTold, BadTop, TooMany
from asksmore.histories import History
from asksmore.letters import Letters
from asksmore.sentences import Limit, Sentence
from asksmore.strikes import struck
from tests.machines import AB, ABC, live_of
from tests.own import STRANGE, Case, every_sentence, own_struck, random_told, words

NO_TOPS = [None, True, False, 0, -1, 10 ** 31, "", "zz", "New", "d", (), ("a",), [], ["a"], ("new",)]
DEEDS = Letters(["push", "pop"])
STACK = close(DEEDS, [Sentence(DEEDS, "undone", "push", "pop"), Sentence(DEEDS, "still", "pop")])


def tops_of(closing):
    """The tops in order."""
    return ["new", "found"] + live_of(closing)


def own_target(top):
    """Beginning and word of the shortest struck history with a top."""
    return (top, ()) if top in ("new", "found") else ("found", (top,))


def own_reached(closing, most):
    """Which letters reach which tops, and the least sizes of witnesses, by all histories up to some size."""
    reached, sizes = set(), {}
    for beginning in ("new", "found"):
        for word in words(closing.letters, most)[1:]:
            form = own_struck(closing, beginning, word)
            top = ((beginning,) + form)[-1]
            reached.add((word[-1], top))
            if (beginning, form) == own_target(top):
                sizes.setdefault((word[-1], top), len(word))
    return reached, sizes


def random_limits(source, letters, many):
    """Some limits."""
    found = []
    for _ in range(many):
        kind = source.choice(("always", "fresh", "behind", "behind"))
        answers = source.sample(["no", "yes", "a", "b1"], source.choice((1, 2, 3)))
        found.append(Limit(letters, kind, answers, source.choice(letters.words) if kind == "behind" else None))
    return found


def own_counts(closing, limit, top, reached):
    """Whether a limit counts at a top."""
    return limit.kind == "always" or limit.kind == "fresh" and top == "new" or (limit.letter, top) in reached


def own_allowed(limits):
    """The answers in common."""
    if not limits:
        return None
    return tuple(sorted(set.intersection(*[set(limit.answers) for limit in limits])))


def closings(seed, many):
    """Closings over two and three letters."""
    source = random.Random(seed)
    for sentence in every_sentence(AB):
        for other in every_sentence(AB):
            yield source, close(AB, [sentence, other])
    for _ in range(many):
        yield source, close(ABC, random_told(source, ABC, source.randrange(5)))


class ReachesTest(Case):
    def test_against_all_histories(self):
        for source, closing in closings(1, 60):
            reached, sizes = own_reached(closing, 3)
            further, _ = own_reached(closing, 5 if closing.letters == AB else 4)
            self.assertEqual(reached, further)
            self.assertEqual(reached, set(sizes))
            for letter in closing.letters:
                for top in tops_of(closing):
                    self.assertIs(reaches(closing, letter, top), (letter, top) in reached)
                    shown = witness(closing, letter, top)
                    if (letter, top) not in reached:
                        self.assertIsNone(shown)
                        continue
                    beginning, form = own_target(top)
                    self.assertEqual((shown.size, shown.last), (sizes[letter, top], letter))
                    self.assertEqual(struck(closing, shown), History.spelled(closing.letters, beginning, form))

    def test_pairs(self):
        letters = Letters(["a", "b", "c", "d"])
        closing = close(letters, [Sentence(letters, "undone", "a", "b"), Sentence(letters, "kept", "c", "d"),
                                  Sentence(letters, "still", "d")])
        self.assertTrue(reaches(closing, "b", "d"))
        self.assertEqual(witness(closing, "b", "d").runs, (("d", 1), ("a", 1), ("b", 1)))
        self.assertEqual(witness(closing, "d", "c").runs, (("c", 1), ("d", 1)))
        self.assertEqual(witness(closing, "d", "new"), History(letters, "new", [("d", 1)]))
        self.assertIsNone(witness(closing, "d", "found"))
        self.assertFalse(reaches(closing, "a", "b"))

    def test_errors(self):
        for action in (reaches, witness):
            for value in STRANGE + ["c", "new"]:
                self.fails(BadLetter, lambda: action(STACK, value, "zz"), 0)
            for top in NO_TOPS:
                self.fails(BadTop, lambda: action(STACK, "pop", top), top)
        closing = close(AB, [Sentence(AB, "alike", "a", "b")])
        self.fails(BadTop, lambda: reaches(closing, "b", "b"), "b")
        self.assertTrue(reaches(closing, "b", "a"))


class AllowedTest(Case):
    def test_against_the_words_of_the_document(self):
        kinds = set()
        for source, closing in closings(2, 60):
            reached, _ = own_reached(closing, 3)
            limits = random_limits(source, closing.letters, source.randrange(6))
            tops, bars = tops_of(closing), []
            for top in tops:
                counting = [limit for limit in limits if own_counts(closing, limit, top, reached)]
                own = own_allowed(counting)
                kinds.add(own if own is None else min(len(own), 2))
                self.assertEqual(allowed(closing, limits, top), own)
                self.assertEqual(allowed(closing, tuple(limits[::-1] + limits), top), own)
                bars += [top] if own == () else []
            self.assertEqual(barred(closing, limits), tuple(bars))
            self.assertEqual(barred(closing, limits[::-1] * 2), tuple(bars))
        self.assertEqual(kinds, {None, 0, 1, 2})

    def test_no_limit(self):
        for top in tops_of(STACK):
            self.assertIsNone(allowed(STACK, [], top))
        self.assertEqual((barred(STACK, ()), conflict(STACK, ())), ((), None))

    def test_order_of_barred_tops(self):
        letters = Letters(["c", "a"])
        limits = [Limit(letters, "always", ["no"]), Limit(letters, "always", ["yes"])]
        self.assertEqual(barred(close(letters, []), limits), ("new", "found", "c", "a"))
        limits = [Limit(letters, "behind", ["no"], "a"), Limit(letters, "always", ["yes"])]
        self.assertEqual(barred(close(letters, []), limits), ("a",))

    def test_limits_are_kept_as_they_are(self):
        limits = [Limit(DEEDS, "always", ["no", "yes"])]
        self.assertEqual(allowed(STACK, limits, "push"), ("no", "yes"))
        self.assertEqual(limits, [Limit(DEEDS, "always", ["yes", "no"])])

    def test_errors(self):
        good = Limit(DEEDS, "always", ["no"])
        other = Limit(Letters(["pop", "push"]), "always", ["no"])
        actions = (lambda limits: allowed(STACK, limits, "zz"), lambda limits: barred(STACK, limits),
                   lambda limits: conflict(STACK, limits))
        for action in actions:
            self.fails(TooMany, lambda: action([other] * 61), "sentences", 61, 60)
            self.fails(TooMany, lambda: action([None] * 62), "sentences", 62, 60)
            for value in STRANGE + [other, Sentence(DEEDS, "idle", "pop")]:
                self.fails(BadTold, lambda: action([good, good, value, None]), 2)
                self.fails(BadTold, lambda: action((value,)), 0)
        for top in NO_TOPS:
            self.fails(BadTop, lambda: allowed(STACK, [good] * 60, top), top)
        self.assertEqual(allowed(STACK, [good] * 60, "pop"), ("no",))
        self.assertEqual(barred(STACK, (good,) * 60), ())
        self.assertIsNone(conflict(STACK, [good] * 60))


class ConflictTest(Case):
    def test_against_the_words_of_the_document(self):
        sizes = set()
        for source, closing in closings(3, 80):
            reached, witnesses = own_reached(closing, 3)
            limits = random_limits(source, closing.letters, source.randrange(2, 9))
            found = conflict(closing, limits)
            if not barred(closing, limits):
                self.assertIsNone(found)
                continue
            top, members = found
            self.assertEqual(top, barred(closing, limits)[0])
            kept = [at for at, limit in enumerate(limits) if own_counts(closing, limit, top, reached)]
            for at in sorted(kept, reverse=True):
                rest = [limits[other] for other in kept if other != at]
                if rest and own_allowed(rest) == ():
                    kept.remove(at)
            self.assertEqual([at for at, _ in members], kept)
            self.assertIsInstance(members, tuple)
            sizes.add(len(members))
            beginning, form = own_target(top)
            shortest = History.spelled(closing.letters, beginning, form)
            for at, history in members:
                self.assertEqual(struck(closing, history), shortest)
                if limits[at].kind == "behind":
                    self.assertEqual((history.last, history.size),
                                     (limits[at].letter, witnesses[limits[at].letter, top]))
                else:
                    self.assertEqual(history, shortest)
        self.assertGreater(len(sizes), 1)

    def test_order_of_dropping(self):
        closing = close(AB, [])
        one, two, three = [Limit(AB, "always", answers) for answers in (["a", "b"], ["b", "c"], ["a", "c"])]
        self.assertEqual([at for at, _ in conflict(closing, [one, two, three])[1]], [0, 1, 2])
        last = Limit(AB, "always", ["d"])
        self.assertEqual([at for at, _ in conflict(closing, [one, two, three, last])[1]], [0, 1, 2])
        self.assertEqual([at for at, _ in conflict(closing, [last, one, two, three])[1]], [0, 1])
        self.assertEqual([at for at, _ in conflict(closing, [one, one, last, last])[1]], [0, 2])
        top, members = conflict(closing, [Limit(AB, "fresh", ["no"]), one, Limit(AB, "behind", ["c"], "a")])
        self.assertEqual((top, members), ("new", ((0, History(AB, "new")), (1, History(AB, "new")))))

    def test_first_barred_top(self):
        limits = [Limit(AB, "behind", ["no"], "b"), Limit(AB, "behind", ["yes"], "a"), Limit(AB, "always", ["x"])]
        top, members = conflict(close(AB, []), limits)
        self.assertEqual(top, "a")
        self.assertEqual(members, ((1, History(AB, "found", [("a", 1)])), (2, History(AB, "found", [("a", 1)]))))


class ExampleTest(Case):
    def test_of_the_document(self):
        limits = [Limit(DEEDS, "fresh", ["none"]), Limit(DEEDS, "behind", ["full"], "push")]
        limits = limits + [Limit(DEEDS, "behind", ["none", "some"], "pop")]
        self.assertEqual([reaches(STACK, "pop", "push"), allowed(STACK, limits, "new"),
                          allowed(STACK, limits, "push")], [True, ("none",), ()])
        top, members = conflict(STACK, limits)
        self.assertEqual([top, members[0][0], members[0][1].runs, members[1][0], members[1][1].runs],
                         ["push", 1, (("push", 1),), 2, (("push", 2), ("pop", 1))])


if __name__ == "__main__":
    unittest.main()
