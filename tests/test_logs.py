import itertools
import random
import unittest

from asksmore.answerers import Answerer
from asksmore.chains import is_chain
from asksmore.errors import BadAnswers, BadBeginning, BadMenu, Impossible, NoFact, OtherLetters, TooLong, TooMany
from asksmore.histories import History
from asksmore.letters import Letters
from asksmore.logs import Log
from asksmore.sentences import Limit, Sentence
from asksmore.specs import Spec
from tests.listing import random_answerer, random_spec, spelled
from tests.machines import AB, ABC, live_of
from tests.own import STRANGE, Case, own_struck, random_runs
from tests.test_halves import filled

DEEDS = Letters(["push", "pop"])
STACK = filled(Sentence(DEEDS, "undone", "push", "pop"), Sentence(DEEDS, "still", "pop"),
               Limit(DEEDS, "fresh", ["none"]), Limit(DEEDS, "behind", ["none", "some"], "push"), letters=DEEDS)
BAD = filled(Limit(AB, "fresh", ["no"]), Limit(AB, "fresh", ["yes"]))
SOME = ["no", "yes", "a", "b1"]


def at(letters, *word, beginning="new"):
    """The history of a word."""
    return History.spelled(letters, beginning, word)


def form_of(spec, history):
    """The struck form, letter by letter."""
    return (history.beginning,) + own_struck(spec.closing, history.beginning, history.word())


def own_broken(spec, facts):
    """What `broken` says, by the words of the document."""
    if not spec.is_possible():
        return ()
    known = {}
    for k, (history, answer) in enumerate(facts):
        form = form_of(spec, history)
        allowed = spec.allowed(form[-1])
        if allowed is not None and answer not in allowed:
            return (k,)
        if form in known and facts[known[form]][1] != answer:
            return (known[form], k)
        known.setdefault(form, k)
    return None


def own_possible(spec, facts, history):
    """What `possible` says, by the words of the document."""
    if own_broken(spec, facts) is not None:
        return ()
    form = form_of(spec, history)
    for other, answer in facts:
        if form_of(spec, other) == form:
            return (answer,)
    return spec.allowed(form[-1])


def random_history(source, letters, many=3):
    """Some short history."""
    return History(letters, source.choice(("new", "found")), random_runs(source, letters, source.randrange(many + 1),
                                                                         (1, 2)))


def random_log(source, letters, most=5):
    """A log of some specification, with its facts."""
    spec = random_spec(source, letters, 3, 2)
    log, facts = Log(spec), []
    program = None
    if spec.is_possible():
        tops = {top: source.choice(spec.allowed(top) or SOME) for top in ["new", "found"] + live_of(spec.closing)}
        program = Answerer(spec.closing, tops)
    for _ in range(source.randrange(most + 1)):
        history = random_history(source, letters)
        answer = source.choice(SOME)
        if program is not None and source.random() < 0.85:
            answer = program(history)
        facts.append((history, answer))
        log.record(history, answer)
    return spec, log, facts


class FactsTest(Case):
    def test_record_returns_the_number(self):
        log = Log(STACK)
        facts = [(at(DEEDS, "push"), "some"), (at(DEEDS), "none"), (at(DEEDS, "push"), "never"),
                 (at(DEEDS, "pop", beginning="found"), "x1")]
        self.assertEqual(log.facts, ())
        for number, fact in enumerate(facts):
            self.assertEqual(log.record(*fact), number)
            self.assertEqual(log.facts, tuple(facts[:number + 1]))

    def test_undo(self):
        log = Log(STACK)
        self.fails(NoFact, log.undo)
        facts = [(at(DEEDS, "push"), "never"), (at(DEEDS), "none")]
        for fact in facts:
            log.record(*fact)
        self.assertEqual(log.broken(), (0,))
        self.assertEqual(log.undo(), facts[1])
        self.assertEqual(log.facts, tuple(facts[:1]))
        self.assertEqual(log.undo(), facts[0])
        self.assertIsNone(log.broken())
        self.fails(NoFact, log.undo)
        self.assertEqual(log.record(*facts[1]), 0)

    def test_sixty_facts(self):
        log = Log(STACK)
        for number in range(60):
            self.assertEqual(log.record(at(DEEDS, "push"), "some"), number)
        self.fails(TooMany, lambda: log.record(at(DEEDS), "none"), "facts", 61, 60)
        self.assertEqual(len(log.facts), 60)
        self.assertIsNone(log.broken())
        log.undo()
        self.assertEqual(log.record(at(DEEDS), "none"), 59)

    def test_errors_in_their_order(self):
        log, full = Log(Spec(AB)), Log(Spec(AB))
        for _ in range(60):
            full.record(at(AB), "no")
        for either in (log, full):
            self.fails(OtherLetters, lambda: either.record(at(ABC), None))
            for value in [value for value in STRANGE if value != "zz"] + ["No", "a b", "1"]:
                self.fails(BadAnswers, lambda: either.record(at(AB), value), 0)
        self.assertEqual(log.facts, ())
        for call in (log.possible, log.sure):
            self.fails(OtherLetters, lambda: call(at(ABC)))
            self.fails(OtherLetters, lambda: getattr(Log(BAD), call.__name__)(at(Letters(["b", "a"]))))

    def test_the_specification_is_a_copy(self):
        spec = filled(Limit(AB, "always", ["no", "yes"]))
        log = Log(spec)
        spec["s1"] = Limit(AB, "always", ["no"])
        self.assertEqual(log.possible(at(AB)), ("no", "yes"))
        shown = log.spec()
        shown.drop("s0")
        self.assertEqual(log.spec().entries, (("s0", Limit(AB, "always", ["no", "yes"])),))
        self.assertEqual(log.possible(at(AB)), ("no", "yes"))


class BrokenTest(Case):
    def test_against_the_words_of_the_document(self):
        source = random.Random(1)
        seen = set()
        for _ in range(500):
            spec, log, facts = random_log(source, source.choice((AB, ABC)))
            wanted = own_broken(spec, facts)
            self.assertEqual(log.broken(), wanted)
            self.assertEqual(log.facts, tuple(facts))
            seen.add(None if wanted is None else len(wanted))
            self.assert_why(spec, log, facts, wanted)
        self.assertEqual(seen, {None, 0, 1, 2})

    def assert_why(self, spec, log, facts, broken):
        """The chain leads from and to the histories that it must."""
        if broken is None:
            self.assertIsNone(log.why())
        elif broken == ():
            self.fails(Impossible, log.why)
        else:
            first, last = facts[broken[0]][0], facts[broken[-1]][0]
            if len(broken) == 1:
                last = spelled(spec.letters, (first.beginning, form_of(spec, first)[1:]))
            steps = log.why()
            self.assertIsInstance(steps, tuple)
            self.assertTrue(is_chain([row[0] for row in spec.closing.rows], first, last, steps))

    def test_not_broken_logs_have_an_answerer(self):
        source = random.Random(2)
        shown = 0
        for _ in range(150):
            spec, log, facts = random_log(source, AB)
            if log.broken() is None:
                shown += 1
                tops = {top: (spec.allowed(top) or SOME)[0] for top in ["new", "found"] + live_of(spec.closing)}
                forms = {form_of(spec, history): answer for history, answer in facts}
                special = [(spelled(AB, (form[0], form[1:])), answer) for form, answer in forms.items()]
                program = Answerer(spec.closing, tops, special)
                self.assertTrue(spec.admits(program))
                self.assertEqual([program(history) for history, _ in facts], [answer for _, answer in facts])
        self.assertGreater(shown, 50)

    def test_large_counts(self):
        log = Log(STACK)
        many = History(DEEDS, "new", [("push", 10 ** 30), ("pop", 10 ** 30 - 1)])
        log.record(many, "some")
        self.assertEqual(log.sure(at(DEEDS, "push")), "some")
        log.record(History(DEEDS, "new", [("push", 10 ** 30), ("pop", 10 ** 30)]), "some")
        self.assertEqual(log.broken(), (1,))
        log.undo()
        log.record(at(DEEDS, "push"), "none")
        self.assertEqual(log.broken(), (0, 1))
        rows = [row[0] for row in STACK.closing.rows]
        self.assertTrue(is_chain(rows, many, at(DEEDS, "push"), log.why()))

    def test_the_first_facts_count(self):
        log = Log(STACK)
        for word, answer in (((), "none"), (("push",), "some"), (("push", "push", "pop"), "some"),
                             (("push",), "none"), ((), "some")):
            log.record(at(DEEDS, *word), answer)
        self.assertEqual(log.broken(), (1, 3))

    def test_machines_never_break_their_logs(self):
        source = random.Random(3)
        kept = 0
        for _ in range(400):
            spec, machine = random_spec(source, AB, 2, 2), random_answerer(source, AB, 2, ("no", "yes"))
            if spec.admits(machine):
                kept += 1
                log = Log(spec)
                for _ in range(6):
                    history = random_history(source, AB)
                    possible = log.possible(history)
                    self.assertTrue(possible is None or machine(history) in possible)
                    self.assertIn(log.sure(history), (None, machine(history)))
                    log.record(history, machine(history))
                    self.assertIsNone(log.broken())
        self.assertGreater(kept, 60)


class PossibleTest(Case):
    def test_against_recording(self):
        source = random.Random(4)
        seen = set()
        for _ in range(250):
            spec, log, facts = random_log(source, AB)
            for _ in range(3):
                history = random_history(source, AB)
                shown = log.possible(history)
                self.assertEqual(shown, own_possible(spec, facts, history))
                self.assertEqual(log.sure(history), shown[0] if shown is not None and len(shown) == 1 else None)
                seen.add(shown if shown is None else min(len(shown), 2))
                if log.broken() is None:
                    for answer in SOME + ["zz"]:
                        log.record(history, answer)
                        self.assertIs(log.broken() is None, shown is None or answer in shown)
                        log.undo()
        self.assertEqual(seen, {None, 0, 1, 2})

    def test_not_possible(self):
        log = Log(BAD)
        log.record(at(AB), "no")
        self.assertEqual((log.broken(), log.possible(at(AB)), log.sure(at(AB))), ((), (), None))
        self.fails(Impossible, log.why)


class UnreadTest(Case):
    def test_against_the_union_over_all_words(self):
        source = random.Random(5)
        seen = set()
        for _ in range(300):
            spec, log, facts = random_log(source, source.choice((AB, ABC)))
            letters = spec.letters
            menus = [source.choices(letters.words, k=source.choice((1, 1, 2, 3)))
                     for _ in range(source.randrange(4))]
            if source.random() < 0.1:
                menus.append([])
            beginning = source.choice(("new", "found"))
            sets = [own_possible(spec, facts, spelled(letters, (beginning, word)))
                    for word in itertools.product(*[sorted(set(menu)) for menu in menus])]
            wanted = None if None in sets else tuple(sorted(set(itertools.chain(*sets))))
            self.assertEqual(log.unread(beginning, menus), wanted)
            seen.add(wanted if wanted is None else min(len(wanted), 3))
        self.assertEqual(seen, {None, 0, 1, 2, 3})

    def test_no_menu_and_an_empty_menu(self):
        log = Log(STACK)
        self.assertEqual(log.unread("new", []), ("none",))
        self.assertIsNone(log.unread("found", ()))
        log.record(at(DEEDS, beginning="found"), "some")
        self.assertEqual(log.unread("found", []), ("some",))
        self.assertEqual(log.unread("new", [["push"], []]), ())
        self.assertEqual(log.unread("found", [[]]), ())
        log.record(at(DEEDS), "some")
        self.assertEqual(log.unread("new", []), ())

    def test_sixty_four_words(self):
        letters = Letters(list("abcdefghijkl"))
        log = Log(filled(Limit(letters, "always", ["no", "yes"]), letters=letters))
        four, eleven, six = list("abcd"), list("abcdefghijk"), list("abcdef")
        self.assertEqual(log.unread("new", [four, four + four, four]), ("no", "yes"))
        self.assertEqual(log.unread("new", [["a"]] * 33 + [["a", "b"]] * 6), ("no", "yes"))
        self.fails(TooMany, lambda: log.unread("new", [eleven, six + ["a"]]), "words", 66, 64)
        self.fails(TooMany, lambda: log.unread("new", [["a", "b"]] * 7), "words", 128, 64)
        self.fails(TooMany, lambda: log.unread("new", [list(letters)] * 39), "words", 12 ** 39, 64)
        self.assertEqual(log.unread("new", [list(letters)] * 38 + [[]]), ())

    def test_more_than_six_answers(self):
        letters = Letters(["a", "b", "c"])
        sets = {"a": ["a1", "a2", "a3", "z"], "b": ["b1", "b2"], "c": ["c1", "c2", "a1"]}
        log = Log(filled(*[Limit(letters, "behind", sets[x], x) for x in letters], letters=letters))
        self.assertEqual(log.unread("found", [["a"], ["c", "b", "a", "b"]]),
                         ("a1", "a2", "a3", "b1", "b2", "c1", "c2", "z"))

    def test_errors_in_their_order(self):
        for log in (Log(Spec(AB)), Log(BAD)):
            for value in STRANGE:
                self.fails(BadBeginning, lambda: log.unread(value, [["c"]] * 40))
            self.fails(TooLong, lambda: log.unread("new", [["c"]] * 40), 40)
            self.fails(BadMenu, lambda: log.unread("new", [["a", "b"]] * 8 + [["a", "c"]]), 8)
            for value in [value for value in STRANGE if value not in ("a",)]:
                self.fails(BadMenu, lambda: log.unread("new", [["a"], [value]]), 1)
            self.fails(TooMany, lambda: log.unread("found", [["a", "b"]] * 7), "words", 128, 64)


if __name__ == "__main__":
    unittest.main()
