"""What one part of the program tells agrees with what the others tell."""

import random
import unittest

from asksmore.asked import State
from asksmore.books import Book, Program
from asksmore.desks import Desk
from asksmore.editions import first_open, form, holds, struck_machine, within
from asksmore.errors import Overasked, Refused
from asksmore.halves import halves
from asksmore.histories import History
from asksmore.logs import Log
from asksmore.sorts import Sort
from asksmore.texts import read_book, read_spec, read_test, write_book, write_spec, write_test
from asksmore.verdicts import is_paper
from tests.fairness import fails, random_test
from tests.listing import every_limit, random_answerer, random_spec
from tests.machines import AB, listed
from tests.own import Case, every_sentence, random_runs
from tests.test_books import ASKS, DEEDS
from tests.test_logs import random_history

ANSWERS = ("no", "yes")


def kept_items(source, machine):
    """Some sentences that a machine keeps."""
    letters = machine.letters
    items = every_sentence(letters) + every_limit(letters, ["no"]) + every_limit(letters, ["yes"])
    items += every_limit(letters, ["no", "yes"])
    kept = [item for item in items if machine.breaks(item) is None]
    return source.sample(kept, min(len(kept), 6))


class HiddenMachineTest(Case):
    def test_at_a_desk(self):
        source = random.Random(1)
        guards, overasked = 0, 0
        for _ in range(40):
            book = Book(DEEDS, ASKS)
            machines = {ask: random_answerer(source, book[ask].letters, source.choice((1, 2, 2, 3)), ANSWERS)
                        for ask, _ in ASKS}
            program = Program(book, machines)
            desk = Desk(book)
            for ask, _ in ASKS:
                for at, item in enumerate(kept_items(source, machines[ask])):
                    desk.say(ask, f"s{at}", item)
                    self.assertTrue(desk.book().admits(program))
                    test = random_test(source, machines[ask].letters, 2)
                    if desk.book()[ask].decide(test).fair:
                        if len(desk.guards) < 12:
                            desk.guard(f"g{len(desk.guards)}", ask, test)
                        guards += 1
                        self.assert_passes(machines[ask], test)
                    else:
                        overasked += 1
                        self.fails(Overasked, lambda: desk.guard("more", ask, test), "more")
            for _, ask, test in desk.guards:
                self.assert_passes(machines[ask], test)
            self.assert_logs(source, desk.book(), program)
        self.assertGreater(guards, 40)
        self.assertGreater(overasked, 40)

    def assert_passes(self, machine, test):
        """A machine passes a test, as far as words of five letters tell."""
        for word in listed(test.domain, 3 if len(test.letters) > 3 else 5):
            self.assertFalse(fails(machine, test, word))

    def assert_logs(self, source, book, program):
        """No log of the answers of a program breaks."""
        logs = {ask: Log(book[ask]) for ask, _ in ASKS}
        for _ in range(12):
            runs = [(word, source.choice("kj") if is_named else "", source.randrange(1, 3))
                    for word, is_named in source.choices(DEEDS, k=source.randrange(4))]
            beginning = source.choice(("new", "found"))
            for ask, name in (("has", "k"), ("has", "j"), ("count", "")):
                history = book.seen(ask, name, beginning, runs)
                answer = program(ask, name, beginning, runs)
                possible = logs[ask].possible(history)
                self.assertTrue(possible is None or answer in possible)
                logs[ask].record(history, answer)
                self.assertIsNone(logs[ask].broken())
                self.assertEqual(logs[ask].sure(history), answer)


class VerdictsTest(Case):
    def test_fair_or_shown_to_ask_more(self):
        source = random.Random(2)
        seen = set()
        for _ in range(250):
            spec, test = random_spec(source, AB, 3, 3), random_test(source, AB)
            verdict = spec.decide(test)
            seen.add((verdict.fair, spec.is_possible()))
            if verdict.fair:
                self.assertIsNone(verdict.answerer())
                if spec.is_possible():
                    self.assertTrue(is_paper(spec.closing, spec.limits, test, verdict.paper()))
                continue
            program = verdict.answerer()
            self.assertTrue(spec.admits(program))
            self.assertTrue(fails(program, test, verdict.word()))
            for word in listed(test.domain, 4):
                if (len(word), [AB.rank(x) for x in word]) < (verdict.size, [AB.rank(x) for x in verdict.word()]):
                    self.assertFalse(fails(program, test, word))
            # Its own answers break no log of the specification, but one of it with a half that makes the test fair.
            self.assert_logs(source, spec, program, test)
        self.assertEqual(seen, {(True, True), (True, False), (False, True)})

    def assert_logs(self, source, spec, program, test):
        """No log of the answers breaks; with a half sentence the program is not admitted."""
        log = Log(spec)
        for _ in range(5):
            history = random_history(source, AB)
            log.record(history, program(history))
        self.assertIsNone(log.broken())
        for half in halves(spec, test)[:2]:
            more = spec.copy()
            more["half"] = half
            self.assertTrue(more.decide(test).fair)
            self.assertTrue(within(more, spec))
            self.assertFalse(holds(spec, half))
            self.assertFalse(more.admits(program))

    def test_struck_machines_tell_what_answerers_tell(self):
        source = random.Random(3)
        compared = 0
        for _ in range(200):
            spec = random_spec(source, AB, 6, 3)
            machine = struck_machine(spec) if spec.is_possible() else None
            if machine is None:
                continue
            compared += 1
            self.assertTrue(spec.admits(machine))
            for sentence in every_sentence(AB):
                self.assertIs(machine.breaks(sentence) is None, holds(spec, sentence))
            for beginning in ("new", "found"):
                sort = Sort.every(AB)
                for one, other in ((["a"], []), (["a", "b"], ["b"])):
                    test = State(beginning, sort, one, other)
                    shown = spec.decide(test)
                    passed = not any(fails(machine, test, word) for word in listed(sort, 4))
                    self.assertIs(shown.fair, passed)
                open_at = first_open(spec, beginning)
                self.assertIsNone(open_at and Log(spec).sure(open_at))
        self.assertGreater(compared, 40)

    def test_sure_answers_are_those_of_every_answerer(self):
        source = random.Random(4)
        sure = 0
        for _ in range(1500):
            spec = random_spec(source, AB, 2, 3)
            machine = random_answerer(source, AB, 2, ANSWERS)
            if spec.admits(machine):
                history = History(AB, source.choice(("new", "found")), random_runs(source, AB, 2))
                answer = Log(spec).sure(history)
                sure += answer is not None
                self.assertIn(answer, (None, machine(history)))
        self.assertGreater(sure, 10)


class TextsTest(Case):
    def test_what_was_written_and_read_tells_the_same(self):
        source = random.Random(5)
        for _ in range(80):
            spec, test = random_spec(source, AB), random_test(source, AB)
            other, again = read_spec(write_spec(spec)), read_test(AB, write_test(test))
            self.assertEqual(form(other), form(spec))
            one, two = spec.decide(test), other.decide(again)
            self.assertEqual((one.fair, one.size, one.word(), one.paper()), (two.fair, two.size, two.word(), two.paper()))

    def test_a_desk_of_a_text(self):
        desk = Desk(read_book("deed push plain\ndeed pop plain\nask full plain\nfull a undone push pop"))
        self.assertEqual(desk.run("follows full kept push pop"), "no")
        self.assertEqual(desk.run("decide full state new pop / pop pop : 0:push:0 0:pop:0 ends 0"), "overasked")
        self.assertEqual(desk.run("say full b still push"), "done")
        self.assertEqual(desk.run("guard g full state new pop / pop pop : 0:push:0 0:pop:0 ends 0"), "done")
        with self.assertRaises(Refused):
            desk.run("drop full b")
        self.assertEqual(write_book(desk.book()).split("\n")[3:], ["full a undone push pop", "full b still push"])


class EqualCallsTest(Case):
    def test_equal_calls_give_equal_results(self):
        source = random.Random(6)
        for _ in range(40):
            spec, test = random_spec(source, AB), random_test(source, AB, 2)
            twin = read_spec(write_spec(spec))
            for one, other in ((spec, spec), (spec, twin)):
                self.assertEqual(one.decide(test).paper(), other.decide(test).paper())
                left, right = one.decide(test).answerer(), other.decide(test).answerer()
                self.assertEqual(left and (left.tops, left.special), right and (right.tops, right.special))
                if spec.is_possible():
                    self.assertEqual(halves(one, test), halves(other, test))
                one_log, other_log = Log(one), Log(other)
                for log in (one_log, other_log):
                    log.record(History(AB, "new", [("a", 3)]), "no")
                    log.record(History(AB, "new", [("a", 3)]), "yes")
                if one_log.broken() != ():
                    self.assertEqual(one_log.why(), other_log.why())


if __name__ == "__main__":
    unittest.main()
