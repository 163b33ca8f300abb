import random
import unittest

from asksmore.answerers import Answerer
from asksmore.closing import close
from asksmore.errors import BadAnswers, BadSpecial, BadTop, OtherLetters, TooMany
from asksmore.histories import History
from asksmore.letters import Letters
from asksmore.sentences import Limit, Sentence
from asksmore.sorts import Sort, struck_words
from asksmore.strikes import are_one, follows, struck
from tests.machines import AB, ABC, live_of
from tests.own import STRANGE, Case, every_sentence, own_struck, random_told, words

DEEDS = Letters(["push", "pop"])
STACK = close(DEEDS, [Sentence(DEEDS, "undone", "push", "pop"), Sentence(DEEDS, "still", "pop")])
TOPS = {"new": "none", "found": "some", "push": "full", "pop": "low"}
FREE = close(AB, [])
NO_ANSWERS = STRANGE[:8] + STRANGE[9:] + ["Yes", "1a", "a b", "a" * 13, "", ["no"], ("no",)]


def pushes(many, beginning="new"):
    """The history of so many pushes."""
    return History(DEEDS, beginning, [("push", many)] if many else [])


def random_answerer(source, closing, specials):
    """Some answerer with some special histories of few letters."""
    tops = {top: source.choice(["no", "yes", "a"]) for top in ["found", "new"] + live_of(closing)}
    special, forms = [], []
    for _ in range(specials):
        word = tuple(source.choice(closing.letters.words) for _ in range(source.randrange(4)))
        beginning = source.choice(("new", "found"))
        form = beginning, own_struck(closing, beginning, word)
        if form not in forms:
            forms.append(form)
            special.append((History.spelled(closing.letters, beginning, word), source.choice(["no", "yes", "z"])))
    return Answerer(closing, tops, special), tops, dict(zip(forms, [answer for _, answer in special]))


class AnswersTest(Case):
    def test_against_struck_words(self):
        source = random.Random(1)
        for _ in range(30):
            closing = close(ABC, random_told(source, ABC, source.randrange(4)))
            answerer, tops, special = random_answerer(source, closing, source.randrange(5))
            for beginning in ("new", "found"):
                for word in words(ABC, 4):
                    form = own_struck(closing, beginning, word)
                    history = History.spelled(ABC, beginning, word)
                    own = special.get((beginning, form), tops[((beginning,) + form)[-1]])
                    self.assertEqual(answerer(history), own)
                    self.assertEqual(answerer.state(history), History.spelled(ABC, beginning, form))

    def test_attributes(self):
        tops = {"zz": 5, "pop": "low", "push": "full", "found": "some", "new": "none"}
        answerer = Answerer(STACK, tops, [[History(DEEDS, "new", [("push", 3), ("pop", 1)]), "two"]])
        self.assertIs(answerer.closing, STACK)
        self.assertEqual(answerer.tops, TOPS)
        self.assertEqual(answerer.special, ((pushes(2), "two"),))
        self.assertIsInstance(answerer.special[0], tuple)
        self.assertEqual(Answerer(STACK, tops).special, ())
        closing = close(AB, [Sentence(AB, "alike", "a", "b")])
        self.assertEqual(Answerer(closing, {"new": "n", "found": "f", "a": "x", "b": 0}).tops,
                         {"new": "n", "found": "f", "a": "x"})

    def test_arguments_are_copied(self):
        tops, special = dict(TOPS), [[pushes(2), "two"]]
        answerer = Answerer(STACK, tops, special)
        tops["push"] = "other"
        special[0][1] = "other"
        special.append((pushes(1), "other"))
        self.assertEqual([answerer(pushes(many)) for many in (0, 1, 2, 3)], ["none", "full", "two", "full"])

    def test_large_counts(self):
        many = 10 ** 30
        answerer = Answerer(STACK, TOPS, [(pushes(many), "special"), (pushes(many, "found"), "other")])
        history = History(DEEDS, "new", [("pop", 3), ("push", many), ("push", many), ("pop", many)])
        self.assertEqual((answerer(history), answerer.state(history)), ("special", pushes(many)))
        self.assertEqual(answerer(history + [("pop", 1)]), "full")
        self.assertEqual(answerer(history + [("pop", many)]), "none")
        self.assertEqual(answerer(pushes(many, "found") + [("push", 5), ("pop", 5)]), "other")

    def test_one_state_and_one_answer(self):
        answerer = Answerer(STACK, TOPS, [(pushes(1), "one")])
        for sentence in STACK.told:
            for runs in ([], [("push", 1)], [("push", 2), ("pop", 1)]):
                start = History(DEEDS, sentence.left.beginning, runs if sentence.kind != "still" else [])
                left, right = start + sentence.left.runs, start + sentence.right.runs
                self.assertEqual((answerer(left), answerer.state(left)), (answerer(right), answerer.state(right)))

    def test_other_letters(self):
        answerer = Answerer(STACK, TOPS)
        for action in (answerer, answerer.state):
            self.fails(OtherLetters, lambda: action(History(AB, "new")))
        for sentence in (Sentence(AB, "idle", "a"), Limit(AB, "always", ["no"])):
            self.fails(OtherLetters, lambda: answerer.breaks(sentence))


class AnswererErrorsTest(Case):
    def test_bad_top(self):
        for missing in TOPS:
            tops = {top: TOPS[top] for top in TOPS if top != missing}
            self.fails(BadTop, lambda: Answerer(STACK, tops, [(pushes(1), 5)] * 11), missing)
            for value in NO_ANSWERS:
                self.fails(BadTop, lambda: Answerer(STACK, {**TOPS, missing: value}), missing)
        self.fails(BadTop, lambda: Answerer(STACK, {}), "new")
        self.fails(BadTop, lambda: Answerer(STACK, {"new": "a", "pop": "b"}), "found")
        self.fails(BadTop, lambda: Answerer(STACK, {"new": "a", "found": "b", "push": "", "pop": ""}), "push")
        letters = Letters(["b", "a"])
        self.fails(BadTop, lambda: Answerer(close(letters, []), {"new": "a", "found": "b"}), "b")

    def test_too_many(self):
        special = [(pushes(many), "x") for many in range(11)]
        self.assertEqual(len(Answerer(STACK, TOPS, special[:10]).special), 10)
        self.fails(TooMany, lambda: Answerer(STACK, TOPS, special), "special", 11, 10)
        self.fails(TooMany, lambda: Answerer(STACK, TOPS, ((History(AB, "new"), 5),) * 12), "special", 12, 10)

    def test_pair_by_pair(self):
        good = (pushes(1), "x")
        self.fails(OtherLetters, lambda: Answerer(STACK, TOPS, [good, (History(AB, "new"), 5), good]))
        for value in NO_ANSWERS:
            self.fails(BadAnswers, lambda: Answerer(STACK, TOPS, [good, (pushes(1), value), (History(AB, "new"), 5)]), 0)
        again = History(DEEDS, "new", [("pop", 2), ("push", 4), ("pop", 3)])
        self.fails(BadSpecial, lambda: Answerer(STACK, TOPS, [good, (pushes(2), "x"), (again, "x"), (again, 5)]), 2)
        self.fails(BadSpecial, lambda: Answerer(STACK, TOPS, [good, [pushes(1), "y"], (History(AB, "new"), "x")]), 1)
        self.assertEqual(len(Answerer(STACK, TOPS, [good, (pushes(1, "found"), "x")]).special), 2)

    def test_runs(self):
        tops = dict.fromkeys(["new", "found", "a", "b"], "x")
        long = History(AB, "new", [("a", 1), ("b", 10 ** 30)] * 150)
        self.assertEqual(Answerer(FREE, tops, [(long, "y")])(long), "y")
        longer = long + [("a", 1)]
        self.fails(BadSpecial, lambda: Answerer(FREE, tops, [(long, "y"), (longer, "y")]), 1)
        self.fails(BadAnswers, lambda: Answerer(FREE, tops, [(longer, 5)]), 0)
        undone = close(AB, [Sentence(AB, "undone", "a", "b")])
        self.assertEqual(Answerer(undone, tops, [(longer, "y")])(longer), "y")


class BreaksTest(Case):
    def is_break(self, answerer, sentence, history):
        """Check that a sentence is not kept at a history."""
        if isinstance(sentence, Limit):
            self.assertNotIn(answerer(history), sentence.answers)
            if sentence.kind == "behind":
                self.assertEqual(history.last, sentence.letter)
            if sentence.kind == "fresh":
                self.assertEqual((history.beginning, history.size), ("new", 0))
            return
        if sentence.kind == "still":
            self.assertEqual(history, History(history.letters, "new"))
        self.assertNotEqual(answerer.state(history + sentence.left.runs), answerer.state(history + sentence.right.runs))

    def test_state_sentences(self):
        source = random.Random(2)
        for _ in range(20):
            closing = close(AB, random_told(source, AB, source.randrange(3)))
            answerer, _, _ = random_answerer(source, closing, 2)
            for sentence in every_sentence(AB):
                history = answerer.breaks(sentence)
                self.assertEqual(history is None, follows(closing, sentence))
                if history is not None:
                    self.is_break(answerer, sentence, history)
            for sentence in closing.told:
                self.assertIsNone(answerer.breaks(sentence))

    def test_limits(self):
        source = random.Random(3)
        nones = 0
        for round_ in range(150):
            letters = AB if round_ % 2 else ABC
            closing = close(letters, random_told(source, letters, source.randrange(4)))
            answerer, tops, special = random_answerer(source, closing, source.randrange(6))
            for kind, letter in [("always", None), ("fresh", None)] + [("behind", letter) for letter in letters]:
                answers = source.sample(["no", "yes", "a", "z"], source.choice((1, 2, 3)))
                limit = Limit(letters, kind, answers, letter)
                history = answerer.breaks(limit)
                if history is not None:
                    self.is_break(answerer, limit, history)
                    self.assertLessEqual(history.size, 2000)
                    continue
                nones += 1
                for beginning in ("new", "found"):
                    for word in words(letters, 5 if letters == AB else 4):
                        if kind == "always" or kind == "fresh" and (beginning, word) == ("new", ()) or \
                                kind == "behind" and word[-1:] == (letter,):
                            form = own_struck(closing, beginning, word)
                            own = special.get((beginning, form), tops[((beginning,) + form)[-1]])
                            self.assertIn(own, answers)
        self.assertGreater(nones, 20)

    def test_special_forms_hide_a_top(self):
        # Only so many struck forms have the top b, and each one is special.
        closing = close(AB, [Sentence(AB, "kept", x, y) for x, y in (("a", "a"), ("b", "b"), ("b", "a"))])
        forms = [History.spelled(AB, beginning, word) for beginning in ("new", "found")
                 for word in struck_forms(closing, beginning, "b")]
        self.assertEqual(len(forms), 4)
        tops = {"new": "x", "found": "x", "a": "x", "b": "y"}
        answerer = Answerer(closing, tops, [(form, "x") for form in forms])
        for limit in (Limit(AB, "always", ["x"]), Limit(AB, "behind", ["x"], "b"), Limit(AB, "behind", ["x"], "a")):
            self.assertIsNone(answerer.breaks(limit))
        for hidden in forms:
            shown = Answerer(closing, tops, [(form, "x") for form in forms if form != hidden])
            self.assertEqual(shown.breaks(Limit(AB, "always", ["x"])), hidden)
            self.is_break(shown, Limit(AB, "behind", ["x"], "b"), shown.breaks(Limit(AB, "behind", ["x"], "b")))

    def test_ten_special_forms(self):
        tops = {"new": "x", "found": "x", "push": "y", "pop": "x"}
        special = [(pushes(many), "x") for many in range(1, 11)]
        answerer = Answerer(STACK, tops, special)
        for limit in (Limit(DEEDS, "always", ["x"]), Limit(DEEDS, "behind", ["x"], "push"),
                      Limit(DEEDS, "behind", ["x"], "pop")):
            self.is_break(answerer, limit, answerer.breaks(limit))
        one = Letters(["a"])
        still = Answerer(close(one, [Sentence(one, "still", "a")]), {"new": "x", "found": "x", "a": "y"},
                         [(History(one, "found", [("a", many)]), "x") for many in range(1, 11)])
        self.assertEqual(still.breaks(Limit(one, "always", ["x"])), History(one, "found", [("a", 11)]))
        lone = Answerer(close(one, [Sentence(one, "kept", "a", "a")]), {"new": "x", "found": "x", "a": "y"},
                        [(History(one, beginning, [("a", 1)]), "x") for beginning in ("new", "found")])
        self.assertIsNone(lone.breaks(Limit(one, "always", ["x"])))

    def test_long_histories(self):
        always = Limit(DEEDS, "always", list(TOPS.values()))
        for many in (1999, 2000, 2001, 10 ** 30):
            answerer = Answerer(STACK, TOPS, [(pushes(many), "wrong")])
            self.assertEqual(answerer.breaks(always), pushes(many))
            behind = Limit(DEEDS, "behind", list(TOPS.values()), "push")
            self.assertEqual(answerer.breaks(behind), pushes(many))
            popped = answerer.breaks(Limit(DEEDS, "behind", list(TOPS.values()), "pop"))
            self.assertEqual((popped.size, popped.last, struck(STACK, popped)), (many + 2, "pop", pushes(many)))
        both = Answerer(STACK, TOPS, [(pushes(10 ** 30), "wrong"), (pushes(1998), "wrong"), (pushes(1999), "wrong")])
        self.assertLessEqual(both.breaks(always).size, 2000)
        self.assertEqual(both.breaks(Limit(DEEDS, "behind", list(TOPS.values()), "pop")).size, 2000)
        near = Answerer(STACK, TOPS, [(pushes(2001), "wrong"), (pushes(2000), "wrong")])
        self.assertEqual(near.breaks(always), pushes(2000))
        short = Answerer(STACK, {**TOPS, "pop": "wrong"}, [(pushes(10 ** 30), "wrong")])
        self.assertLessEqual(short.breaks(always).size, 2000)

    def test_shortest_ways_to_a_long_form(self):
        letters = Letters(["a", "b", "w", "c", "d"])
        told = [Sentence(letters, "idle", "w"), Sentence(letters, "kept", "a", "b"), Sentence(letters, "alike", "d", "a"),
                Sentence(letters, "undone", "a", "c")]
        closing = close(letters, told)
        tops = dict.fromkeys(["new", "found", "a", "b", "c"], "x")
        for many in (1, 1998, 1999, 2000, 10 ** 30):
            form = History(letters, "found", [("a", many)])
            answerer = Answerer(closing, tops, [(form, "y")])
            for letter, more in (("a", 0), ("d", 0), ("w", 1), ("b", 1), ("c", 2)):
                history = answerer.breaks(Limit(letters, "behind", ["x"], letter))
                self.assertTrue(are_one(closing, history, form))
                self.assertEqual((history.last, history.size), (letter, many + more))

    def test_order_of_pairs_means_nothing(self):
        limit = Limit(DEEDS, "fresh", ["none"])
        self.assertEqual(Answerer(STACK, {**TOPS, "new": "x"}).breaks(limit), pushes(0))
        self.assertIsNone(Answerer(STACK, {**TOPS, "new": "x"}, [(pushes(0), "none")]).breaks(limit))
        self.assertEqual(Answerer(STACK, TOPS, [(pushes(0), "x")]).breaks(limit), pushes(0))
        self.assertIsNone(Answerer(STACK, TOPS).breaks(limit))


def struck_forms(closing, beginning, top):
    """The words of the struck forms with a top, of which there are finitely many."""
    sort = struck_words(closing, beginning) & Sort.ending(closing.letters, top)
    return [sort[place] for place in range(sort.growth()[1])]


if __name__ == "__main__":
    unittest.main()
