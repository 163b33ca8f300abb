import random
import unittest
from unittest import mock

from asksmore.asked import After, Same, State
from asksmore.books import Book
from asksmore.completing import Completion
from asksmore.desks import Desk
from asksmore.editions import holds
from asksmore.errors import (AsksError, BadName, BadText, Impossible, Known, NothingLeft, OtherLetters, Overasked,
                             Refused, TooMany, Unknown)
from asksmore.letters import Letters
from asksmore.sentences import Limit, Sentence
from asksmore.sorts import Sort
from asksmore.texts import write_book, write_test
from tests.fairness import random_test
from tests.machines import AB
from tests.own import STRANGE, Case, random_told
from tests.test_allowed import random_limits
from tests.test_specs import NO_NAMES, Boom

# Both asks of this book have these letters.
DEEDS = [("a", False), ("b", False)]
ASKS = [("one", False), ("two", True)]
EVERY = Sort.every(AB)
IDLE = Sentence(AB, "idle", "a")
STILL = Sentence(AB, "still", "b")
NO, YES, BOTH = [Limit(AB, "always", answers) for answers in (["no"], ["yes"], ["no", "yes"])]
SAYS_NO = After("new", EVERY, ["no"])
STAYS = State("new", EVERY, ["a"], [])


def shown(desk):
    """All that a desk shows."""
    return write_book(desk.book()), desk.guards


def build(*entries):
    """A desk whose first ask has these entries."""
    book = Book(DEEDS, ASKS)
    for name, item in entries:
        book["one"][name] = item
    return Desk(book)


class DeskCase(Case):
    def refused(self, call, cause, *fields):
        """A change is refused, for this cause, and changes nothing."""
        with self.assertRaises(Refused) as caught:
            call()
        error = caught.exception
        self.assertIs(type(error.__cause__), cause)
        self.assertEqual(list(vars(error.__cause__).values()), list(fields))
        return error.ask, error.name

    def unchanged(self, desk, error, call, *fields):
        """A call fails and changes nothing, neither what can be taken back nor what can be done again."""
        before = history_of(desk)
        self.fails(error, call, *fields)
        self.assertEqual(history_of(desk), before)


def history_of(desk):
    """What a desk shows now, behind each `undo` and behind each `redo`."""
    def walk(tried):
        """Go back and forth as far as it goes."""
        found = [shown(tried)]
        for action in (tried.undo, tried.redo):
            while True:
                try:
                    action()
                except NothingLeft:
                    break
                found.append(shown(tried))
        return found
    return desk.trial(walk)


class ChangesTest(DeskCase):
    def test_a_copy_of_the_book(self):
        book = Book(DEEDS, ASKS)
        book["one"]["a"] = NO
        desk = Desk(book)
        book["one"].drop("a")
        self.assertEqual(desk.book()["one"].entries, (("a", NO),))
        copy = desk.book()
        copy["one"]["b"] = IDLE
        copy["two"]["b"] = IDLE
        self.assertEqual(desk.book()["one"].entries, (("a", NO),))
        desk.say("one", "c", STILL)
        self.assertEqual((copy["one"].names, desk.book()["one"].names), (("a", "b"), ("a", "c")))
        self.assertEqual(desk.guards, ())

    def test_not_possible(self):
        book = Book(DEEDS, ASKS)
        book["two"]["a"] = NO
        book["two"]["b"] = YES
        self.fails(Impossible, lambda: Desk(book))

    def test_say_and_drop(self):
        desk = build()
        self.assertIsNone(desk.say("one", "x", BOTH))
        desk.say("two", "x", IDLE)
        desk.say("one", "y", STILL)
        desk.say("one", "x", NO)
        self.assertEqual(desk.book()["one"].entries, (("x", NO), ("y", STILL)))
        self.assertIsNone(desk.drop("one", "x"))
        self.assertEqual(desk.book()["one"].entries, (("y", STILL),))
        self.assertEqual(desk.book()["two"].entries, (("x", IDLE),))

    def test_errors_of_say_and_drop_in_their_order(self):
        desk = build(("a", NO), ("b", BOTH))
        desk.guard("g", "one", SAYS_NO)
        other = Sentence(Letters(["b", "a"]), "idle", "a")
        for value in STRANGE + ["three", "One"]:
            self.unchanged(desk, Unknown, lambda: desk.say(value, None, other), value)
            self.unchanged(desk, Unknown, lambda: desk.drop(value, None), value)
            self.unchanged(desk, Unknown, lambda: desk.drop("one", value), value)
        for value in NO_NAMES:
            self.unchanged(desk, BadName, lambda: desk.say("one", value, other), value)
        self.unchanged(desk, OtherLetters, lambda: desk.say("one", "a", other))
        for at in range(58):
            desk.say("one", f"s{at}", IDLE)
        self.unchanged(desk, TooMany, lambda: desk.say("one", "more", YES), "sentences", 61, 60)
        desk.say("one", "s3", NO)

    def test_refused_from_impossible(self):
        desk = build(("a", NO))
        desk.guard("g", "one", SAYS_NO)
        desk.say("one", "b", IDLE)
        desk.undo()
        before = history_of(desk)
        self.assertEqual(self.refused(lambda: desk.say("one", "x", YES), Impossible), ("one", "x"))
        self.assertEqual(self.refused(lambda: desk.say("one", "x", Limit(AB, "fresh", ["zz"])), Impossible), ("one", "x"))
        self.assertEqual(history_of(desk), before)
        desk.redo()
        desk.say("two", "x", YES)
        desk.release("g")
        desk.say("one", "a", YES)

    def test_refused_from_overasked(self):
        desk = build(("a", NO), ("b", IDLE))
        desk.guard("g", "two", Same("new", EVERY, [], []))
        desk.guard("h", "one", STAYS)
        desk.guard("i", "one", SAYS_NO)
        desk.guard("j", "one", SAYS_NO)
        before = history_of(desk)
        self.assertEqual(self.refused(lambda: desk.drop("one", "a"), Overasked, "i"), ("one", "a"))
        self.assertEqual(self.refused(lambda: desk.drop("one", "b"), Overasked, "h"), ("one", "b"))
        self.assertEqual(self.refused(lambda: desk.say("one", "a", BOTH), Overasked, "i"), ("one", "a"))
        self.assertEqual(self.refused(lambda: desk.say("one", "a", STILL), Overasked, "i"), ("one", "a"))
        self.assertEqual(self.refused(lambda: desk.say("one", "b", STILL), Overasked, "h"), ("one", "b"))
        # No answer is left, so each guard would be fair.
        self.assertEqual(self.refused(lambda: desk.say("one", "b", YES), Impossible), ("one", "b"))
        self.assertEqual(history_of(desk), before)
        desk.release("i")
        self.assertEqual(self.refused(lambda: desk.drop("one", "a"), Overasked, "j"), ("one", "a"))
        desk.release("j")
        desk.drop("one", "a")


class GuardsTest(DeskCase):
    def test_guard_and_release(self):
        desk = build(("a", NO), ("b", IDLE))
        self.assertIsNone(desk.guard("x", "one", SAYS_NO))
        desk.guard("w", "one", STAYS)
        desk.guard("two", "two", Same("found", EVERY, ["a"], ["a"]))
        self.assertEqual(desk.guards, (("x", "one", SAYS_NO), ("w", "one", STAYS),
                                       ("two", "two", Same("found", EVERY, ["a"], ["a"]))))
        self.assertIsNone(desk.release("w"))
        self.assertEqual([guard[0] for guard in desk.guards], ["x", "two"])
        desk.guard("w", "one", STAYS)
        self.assertEqual([guard[0] for guard in desk.guards], ["x", "two", "w"])

    def test_errors_in_their_order(self):
        desk = build(("a", NO))
        desk.guard("g", "one", SAYS_NO)
        wrong = After("new", Sort.every(Letters(["b", "a"])), ["yes"])
        large, unfair = After("new", Sort.only(AB, ["a"] * 12), ["yes"]), After("new", EVERY, ["yes"])
        for value in NO_NAMES:
            self.unchanged(desk, BadName, lambda: desk.guard(value, None, wrong), value)
        self.unchanged(desk, Known, lambda: desk.guard("g", None, wrong), "g")
        for value in STRANGE + ["three"]:
            self.unchanged(desk, Unknown, lambda: desk.guard("h", value, wrong), value)
            self.unchanged(desk, Unknown, lambda: desk.release(value), value)
        self.unchanged(desk, OtherLetters, lambda: desk.guard("h", "one", wrong))
        self.unchanged(desk, TooMany, lambda: desk.guard("h", "one", large), "states", 13, 12)
        self.unchanged(desk, Overasked, lambda: desk.guard("h", "one", unfair), "h")
        self.unchanged(desk, Overasked, lambda: desk.guard("h", "two", SAYS_NO), "h")
        for at in range(11):
            desk.guard(f"g{at}", "one", SAYS_NO)
        self.assertEqual(len(desk.guards), 12)
        self.unchanged(desk, Known, lambda: desk.guard("g3", "one", SAYS_NO), "g3")
        self.unchanged(desk, TooMany, lambda: desk.guard("h", "one", large), "states", 13, 12)
        for test in (SAYS_NO, unfair):
            self.unchanged(desk, TooMany, lambda: desk.guard("h", "one", test), "guards", 13, 12)
        desk.release("g3")
        desk.guard("h", "one", SAYS_NO)


def random_call(source, desk):
    """Some call at a desk: a method and its arguments."""
    ask = source.choice(("one", "two"))
    name = source.choice("xyz")
    kind = source.choice(("say", "say", "say", "drop", "guard", "guard", "release", "undo", "redo"))
    if kind == "say":
        item = source.choice(random_told(source, AB, 1) + random_limits(source, AB, 1))
        return desk.say, (ask, name, item)
    if kind == "drop":
        return desk.drop, (ask, name)
    if kind == "guard":
        return desk.guard, (source.choice("gh"), ask, random_test(source, AB, 2))
    if kind == "release":
        return desk.release, (source.choice("gh"),)
    return (desk.undo if kind == "undo" else desk.redo), ()


class UndoTest(DeskCase):
    def test_many_calls(self):
        source = random.Random(1)
        seen = set()
        for _ in range(25):
            desk = build()
            past, future, now = [], [], shown(desk)
            for _ in range(60):
                call, arguments = random_call(source, desk)
                name = call.__name__
                try:
                    self.assertIsNone(call(*arguments))
                except AsksError as error:
                    seen.add((name, type(error)))
                    self.assertEqual(shown(desk), now)
                    if name in ("undo", "redo"):
                        self.assertEqual(type(error), NothingLeft)
                        self.assertFalse(past if name == "undo" else future)
                    continue
                seen.add((name, None))
                if name == "undo":
                    future.append(now)
                    now = past.pop()
                elif name == "redo":
                    past.append(now)
                    now = future.pop()
                else:
                    past, future, now = past + [now], [], shown(desk)
                self.assertEqual(shown(desk), now)
                self.assert_sound(desk)
            self.assertEqual(history_of(desk), [now] + past[::-1] + (past + [now])[1:] + future[::-1])
        names = ("say", "drop", "guard", "release", "undo", "redo")
        self.assertLessEqual({(name, None) for name in names}, seen)
        self.assertLessEqual({("say", Refused), ("drop", Refused), ("undo", NothingLeft), ("redo", NothingLeft),
                              ("guard", Overasked), ("guard", Known), ("release", Unknown), ("drop", Unknown)}, seen)

    def assert_sound(self, desk):
        """The book is possible and all guards are fair."""
        book = desk.book()
        self.assertTrue(book.is_possible())
        for _, ask, test in desk.guards:
            self.assertTrue(book[ask].decide(test).fair)

    def test_each_kind_of_change(self):
        desk = build(("a", NO))
        self.fails(NothingLeft, desk.undo)
        self.fails(NothingLeft, desk.redo)
        changes = [lambda: desk.say("one", "b", IDLE), lambda: desk.say("one", "b", STILL),
                   lambda: desk.say("one", "b", STILL), lambda: desk.guard("g", "one", SAYS_NO),
                   lambda: desk.drop("one", "b"), lambda: desk.guard("h", "two", Same("new", EVERY, [], [])),
                   lambda: desk.release("g")]
        states = [shown(desk)]
        for change in changes:
            change()
            states.append(shown(desk))
        for _ in range(2):
            for state in states[-2::-1]:
                self.assertIsNone(desk.undo())
                self.assertEqual(shown(desk), state)
            self.fails(NothingLeft, desk.undo)
            for state in states[1:]:
                self.assertIsNone(desk.redo())
                self.assertEqual(shown(desk), state)
            self.fails(NothingLeft, desk.redo)

    def test_what_ends_what_can_be_done_again(self):
        desk = build(("a", NO))
        desk.say("one", "b", IDLE)
        desk.say("one", "c", STILL)
        desk.undo()
        self.refused(lambda: desk.say("one", "d", YES), Impossible)
        self.fails(Overasked, lambda: desk.guard("g", "one", After("new", EVERY, ["yes"])), "g")
        self.fails(Unknown, lambda: desk.release("g"), "g")
        desk.trial(lambda tried: tried.say("one", "d", STILL))
        desk.redo()
        self.assertEqual(desk.book()["one"].names, ("a", "b", "c"))
        desk.undo()
        desk.say("one", "b", IDLE)
        self.fails(NothingLeft, desk.redo)
        desk.undo()
        desk.undo()
        self.assertEqual(desk.book()["one"].names, ("a",))

    def test_many_changes(self):
        desk = build()
        for at in range(1500):
            desk.say("one", "x", IDLE if at % 2 else STILL)
        for _ in range(1499):
            desk.undo()
        self.assertEqual(desk.book()["one"].entries, (("x", STILL),))
        desk.undo()
        self.fails(NothingLeft, desk.undo)
        for _ in range(1500):
            desk.redo()
        self.assertEqual(desk.book()["one"].entries, (("x", IDLE),))

    def test_changes_of_the_book_do_not_reach_the_past(self):
        desk = build()
        desk.say("one", "x", IDLE)
        desk.book()["one"].drop("x")
        desk.undo()
        desk.book()["one"]["x"] = NO
        desk.redo()
        self.assertEqual(desk.book()["one"].entries, (("x", IDLE),))


def named_book():
    """A book of named deeds and asks; in each ask each letter is kept behind itself."""
    book = Book([(f"d{at}", True) for at in range(6)], [(f"a{at}", True) for at in range(8)])
    for ask, _ in book.asks:
        letters = book[ask].letters
        for at, x in enumerate(letters):
            book[ask][f"k{at}"] = Sentence(letters, "kept", x, x)
    return book


def entries_of(book):
    """The names, entries and closings of all asks."""
    specs = [book[ask] for ask, _ in book.asks]
    return [(spec.names, spec.entries, spec.limits, spec.closing.told, spec.closing.form()) for spec in specs]


class ManyChangesTest(DeskCase):
    def check(self, desk, hand):
        """The book is as the one that was changed by hand, and its changes are no changes of the desk."""
        book = desk.book()
        self.assertEqual(entries_of(book), entries_of(hand))
        letters = book["a0"].letters
        book["a0"]["n"] = Limit(letters, "always", ["other"])
        book["a0"].drop("k3")
        book["a5"]["k0"] = Sentence(letters, "idle", "d0")
        self.assertEqual(entries_of(desk.book()), entries_of(hand))

    def test_back_and_forth(self):
        desk, hand = Desk(named_book()), named_book()
        letters = hand["a0"].letters
        limits = [Limit(letters, "fresh", [f"x{at}"]) for at in range(110)]
        for limit in limits:
            desk.say("a0", "n", limit)
            hand["a0"]["n"] = limit
            self.check(desk, hand)
        for limit in [None, *limits[:-1]][::-1]:
            desk.undo()
            if limit is None:
                hand["a0"].drop("n")
            else:
                hand["a0"]["n"] = limit
            self.check(desk, hand)
        self.fails(NothingLeft, desk.undo)
        for limit in limits:
            desk.redo()
            hand["a0"]["n"] = limit
            self.check(desk, hand)
        self.fails(NothingLeft, desk.redo)

    def test_a_book_that_was_handed_out(self):
        desk = Desk(named_book())
        letters = desk.book()["a0"].letters
        desk.say("a0", "n", Limit(letters, "fresh", ["x"]))
        desk.say("a1", "n", Limit(letters, "always", ["x", "y"]))
        desk.drop("a1", "k0")
        desk.undo()
        before = history_of(desk)
        for ask, _ in desk.book().asks:
            for item in (None, Sentence(letters, "idle", "d0"), Limit(letters, "fresh", ["zz"])):
                book = desk.book()
                if item is None:
                    book[ask].drop("k1")
                else:
                    book[ask]["k1"] = book[ask]["n"] = item
                self.assertEqual(history_of(desk), before)
        desk.redo()
        self.assertNotIn("k0", desk.book()["a1"].names)

    def test_asks_of_all_kinds_of_changes(self):
        source = random.Random(16)
        for _ in range(4):
            desk, hand = Desk(named_book()), named_book()
            letters, past = hand["a0"].letters, []
            for _ in range(40):
                ask, name = f"a{source.randrange(8)}", source.choice(["k0", "k1", "n", "m"])
                past.append(hand.copy())
                if name in hand[ask].names and source.random() < 0.4:
                    desk.drop(ask, name)
                    hand[ask].drop(name)
                else:
                    # An answer that is in all of them keeps the book possible.
                    items = [Limit(letters, "always", ["no", source.choice("abc")])] + random_told(source, letters, 2)
                    item = source.choice(items)
                    desk.say(ask, name, item)
                    hand[ask][name] = item
                self.check(desk, hand)
            states = [entries_of(book) for book in past] + [entries_of(hand)]
            for state in states[-2::-1]:
                desk.undo()
                self.assertEqual(entries_of(desk.book()), state)
            for state in states[1:]:
                desk.redo()
                self.assertEqual(entries_of(desk.book()), state)

    def test_nothing_is_closed_anew_where_limits_change(self):
        desk = Desk(named_book())
        letters = desk.book()["a0"].letters
        with mock.patch.object(Completion, "take", side_effect=AssertionError):
            for answer in ("x", "y", "z"):
                desk.say("a0", "n", Limit(letters, "fresh", [answer]))
                desk.run(f"say a1 n always {answer}")
                desk.book()
            for action in (desk.undo, desk.redo):
                action()
                desk.book()
            desk.drop("a0", "n")


class RunTest(DeskCase):
    def test_all_words(self):
        desk = build()
        for line in ("say one x always no yes", "say two y kept a a", "say one x always no",
                     "guard g one after new no : 0:a:0 0:b:0 ends 0", "guard h two same new a / a a : ends 0"):
            self.assertEqual(desk.run(line), "done")
        self.assertEqual(desk.book()["one"].entries, (("x", NO),))
        self.assertEqual(desk.book()["two"].entries, (("y", Sentence(AB, "kept", "a", "a")),))
        self.assertEqual(desk.guards, (("g", "one", SAYS_NO), ("h", "two", Same("new", Sort.only(AB, []), ["a"], ["a", "a"]))))
        for line, answer in (("decide one after found no yes : 0:a:0 ends 0", "fair"),
                             ("decide two after found no : 0:a:0 ends 0", "overasked"),
                             ("decide two state new a / a a : ends 0", "fair"),
                             ("follows one behind a yes no", "yes"), ("follows one idle a", "no"),
                             ("follows two over a a", "yes"), ("follows two always a", "no")):
            before = history_of(desk)
            self.assertEqual(desk.run(line), answer)
            self.assertEqual(history_of(desk), before)
        self.assertEqual(desk.run("release g"), "done")
        self.assertEqual(desk.run("drop one x"), "done")
        self.assertEqual((desk.book()["one"].names, len(desk.guards)), ((), 1))
        self.assertEqual((desk.run("undo"), desk.run("undo"), desk.run("redo")), ("done",) * 3)
        self.assertEqual((desk.book()["one"].names, len(desk.guards)), (("x",), 1))

    def test_against_the_methods(self):
        source = random.Random(2)
        for _ in range(40):
            desk, other = build(), build()
            for _ in range(20):
                call, arguments = random_call(source, desk)
                words = [write_test(part) if hasattr(part, "domain") else str(part) for part in arguments]
                line = " ".join([call.__name__, *words])
                try:
                    call(*arguments)
                except AsksError as error:
                    self.fails(type(error), lambda: other.run(line), *vars(error).values())
                else:
                    self.assertEqual(other.run(line), "done")
                self.assertEqual(shown(desk), shown(other))
                test, item = random_test(source, AB, 2), source.choice(random_told(source, AB, 1))
                fair = desk.book()["one"].decide(test).fair
                self.assertEqual(desk.run(f"decide one {write_test(test)}"), "fair" if fair else "overasked")
                self.assertEqual(desk.run(f"follows two {item}"), "yes" if holds(desk.book()["two"], item) else "no")

    def test_wrong_words(self):
        wrong = {"": 1, " ": 1, "Say": 1, "tell one x idle a": 1, " say one x idle a": 1, "say": 2, "say ": 2,
                 "say three x idle a": 2, "say one": 3, "say one ": 3, "say one  idle a": 3, "say one x": 4,
                 "say one x idle": 5, "say one x idle c": 5, "say one x idle a a": 6, "say one x idle a ": 6,
                 "say one X idle ~a": 5, "drop": 2, "drop three X": 2, "drop one": 3, "drop one ": 3, "drop one X y": 4,
                 "guard": 2, "guard ": 2, "guard  one": 2, "guard g": 3, "guard g three": 3, "guard g one": 4,
                 "guard G one after new no :": 8, "guard G one after new no : ends 0 ": 10, "release": 2, "release ": 2,
                 "release x y": 3, "undo x": 2, "undo ": 2, "redo redo": 2, "decide": 2, "decide three": 2, "decide one": 3,
                 "decide one same new a b : ends": 7, "decide one same new a / b : ends x": 10, "follows": 2,
                 "follows x": 2, "follows one": 3, "follows one alike a a": 5, "follows one always no ": 5,
                 "say\none x idle a": 1, "undo\n": 1, "follows one idle a\n": 4,
                 "follows one idle a x": 5, "follows one kept a b ": 6, "follows one always no yes 1": 6}
        desk = build(("a", NO))
        desk.say("one", "b", IDLE)
        desk.undo()
        for line, place in wrong.items():
            self.unchanged(desk, BadText, lambda: desk.run(line), 1, place)

    def test_errors_of_the_methods(self):
        desk = build(("a", NO))
        self.fails(BadName, lambda: desk.run("say one X! idle a"), "X!")
        self.fails(BadName, lambda: desk.run("say one a\nb idle a"), "a\nb")
        self.fails(Unknown, lambda: desk.run("drop one X!"), "X!")
        self.fails(BadName, lambda: desk.run("guard : one after new no : ends 0"), ":")
        self.fails(Overasked, lambda: desk.run("guard g one after new yes : ends 0"), "g")
        self.fails(Unknown, lambda: desk.run("release \n"), "\n")
        self.fails(NothingLeft, lambda: desk.run("undo"))
        self.fails(NothingLeft, lambda: desk.run("redo"))
        self.assertEqual(self.refused(lambda: desk.run("say one x always yes"), Impossible), ("one", "x"))
        large = " ".join(f"{at}:a:{at + 1}" for at in range(12)) + " ends 12"
        self.fails(TooMany, lambda: desk.run(f"decide one after new no : {large}"), "states", 13, 12)
        self.fails(TooMany, lambda: desk.run(f"guard g one after new no : {large}"), "states", 13, 12)
        self.assertEqual(history_of(desk), [shown(desk)])


class TrialTest(DeskCase):
    def test_what_it_returns_and_restores(self):
        desk = build(("a", NO))
        desk.guard("g", "one", SAYS_NO)
        desk.say("one", "b", IDLE)
        desk.undo()
        before = history_of(desk)

        def action(handed):
            """Change all there is, also by the outer name."""
            self.assertIs(handed, desk)
            handed.release("g")
            desk.say("one", "x", STILL)
            handed.drop("one", "a")
            desk.run("say two y idle b")
            handed.undo()
            handed.undo()
            desk.redo()
            return shown(desk)
        result = desk.trial(action)
        self.assertEqual(result[1], ())
        self.assertIn("one x still b", result[0])
        self.assertNotIn("always", result[0])
        self.assertEqual(history_of(desk), before)

    def test_errors_that_leave_the_action(self):
        desk = build(("a", NO))
        desk.say("one", "b", IDLE)
        before = history_of(desk)

        def fail(handed):
            """Change something and fail."""
            handed.undo()
            handed.drop("one", "a")
            raise Boom()

        def refused(handed):
            """Change something and be refused."""
            handed.guard("g", "one", SAYS_NO)
            handed.drop("one", "a")
        with self.assertRaises(Boom):
            desk.trial(fail)
        self.assertEqual(history_of(desk), before)
        self.assertEqual(self.refused(lambda: desk.trial(refused), Overasked, "g"), ("one", "a"))
        self.assertEqual(history_of(desk), before)

    def test_within_one_another(self):
        desk = build(("a", NO))

        def inner(handed):
            """Undo what the outer one did, and more."""
            handed.undo()
            handed.say("one", "y", STILL)
            return handed.book()["one"].names

        def outer(handed):
            """Change, try, and go on."""
            handed.say("one", "x", IDLE)
            tried = handed.trial(inner)
            after = desk.book()["one"].names
            handed.undo()
            return tried, after, handed.book()["one"].names
        self.assertEqual(desk.trial(outer), (("a", "y"), ("a", "x"), ("a",)))
        self.assertEqual(history_of(desk), [shown(desk)])
        self.assertEqual(desk.book()["one"].names, ("a",))


if __name__ == "__main__":
    unittest.main()
