import random
import unittest

from asksmore.answerers import Answerer
from asksmore.books import Book, Program
from asksmore.closing import close
from asksmore.editions import within
from asksmore.errors import (BadAsks, BadBeginning, BadCount, BadDeeds, BadName, BadProgram, BadRuns, OtherDeeds,
                             OtherLetters, TooMany, Unknown)
from asksmore.histories import History
from asksmore.letters import Letters
from asksmore.machines import Machine
from asksmore.sentences import Limit, Sentence
from asksmore.specs import Spec
from tests.listing import random_answerer
from tests.own import STRANGE, Case, random_told
from tests.test_allowed import random_limits

DEEDS = [("put", True), ("clear", False), ("take", True)]
ASKS = [("has", True), ("count", False)]
NAMED = Letters(["put", "~put", "clear", "take", "~take"])
PLAIN = Letters(["put", "clear", "take"])
NO_PAIRS = STRANGE + [("a",), ("a", True, True), ("a", 1), ("a", 0), ("a", None), ("a", "named"), ("a", []), (None, True),
                      ("A", True), ("~a", True), ("", False), ("new", True), ("found", False), ("1a", True),
                      ("a" * 13, True), (["a"], True), (("a",), True), {"a": True, "b": False}, "ab"]
NO_OBJECTS = [value for value in STRANGE if value != "zz"] + ["A", "a b", "a-b", "a" * 61, "~a", "a\n", "\u00e9"]


def build():
    """A book with several sentences."""
    book = Book(DEEDS, ASKS)
    book["has"]["in"] = Limit(NAMED, "behind", ["yes"], "put")
    book["has"]["other"] = Sentence(NAMED, "idle", "~put")
    book["count"]["again"] = Sentence(PLAIN, "kept", "clear", "clear")
    return book


def entries(book):
    """All entries, by asks."""
    return {ask: book[ask].entries for ask, _ in book.asks}


def random_book(source, deeds=DEEDS, asks=ASKS):
    """Some book."""
    book = Book(deeds, asks)
    for ask, _ in book.asks:
        letters = book[ask].letters
        items = random_told(source, letters, source.randrange(3)) + random_limits(source, letters, source.randrange(3))
        for at, item in enumerate(items):
            book[ask][f"s{at}"] = item
    return book


def random_program(source, book, states=2, answers=("no", "yes", "a")):
    """Some program of machines."""
    return Program(book, {ask: random_answerer(source, book[ask].letters, states, answers) for ask, _ in book.asks})


class BookTest(Case):
    def test_deeds_asks_and_letters(self):
        deeds, asks = [["put", True], ("clear", False), ("take", True)], [("has", True), ["count", False]]
        book = Book(deeds, asks)
        deeds[0][1], asks[1][0] = False, "x"
        deeds.pop()
        self.assertEqual((book.deeds, book.asks), (tuple(DEEDS), tuple(ASKS)))
        self.assertEqual((book["has"].letters, book["count"].letters), (NAMED, PLAIN))
        self.assertEqual((len(book["has"]), book["count"].entries), (0, ()))
        full = Book([(f"d{at}", True) for at in range(6)], [(f"a{at}", at % 2 == 0) for at in range(8)])
        self.assertEqual(len(full["a0"].letters), 12)
        self.assertEqual(len(full["a1"].letters), 6)
        self.assertEqual(full["a0"].letters.words[:4], ("d0", "~d0", "d1", "~d1"))

    def test_words_that_deeds_and_asks_may_have(self):
        book = Book([("deed", False), ("ask", True), ("has", False)], [("has", True), ("new1", False)])
        self.assertEqual(book["has"].letters.words, ("deed", "ask", "~ask", "has"))

    def test_numbers(self):
        seven, nine = [(f"d{at}", False) for at in range(7)], [(f"a{at}", False) for at in range(9)]
        self.fails(TooMany, lambda: Book(seven, nine), "deeds", 7, 6)
        self.fails(TooMany, lambda: Book([None] * 8, []), "deeds", 8, 6)
        self.fails(BadDeeds, lambda: Book([], nine), 0)
        self.fails(TooMany, lambda: Book(seven[:6], nine), "asks", 9, 8)
        self.fails(TooMany, lambda: Book(seven[:6], [None] * 10), "asks", 10, 8)
        self.fails(BadAsks, lambda: Book(seven[:6], []), 0)
        self.assertEqual(len(Book(seven[:6], nine[:8]).asks), 8)

    def test_wrong_pairs(self):
        good = [("x", True), ("y", False)]
        for value in NO_PAIRS:
            self.fails(BadDeeds, lambda: Book([value], [None]), 0)
            self.fails(BadDeeds, lambda: Book(good + [value, None], []), 2)
            self.fails(BadAsks, lambda: Book(good, [value]), 0)
            self.fails(BadAsks, lambda: Book(good, good + [value, None]), 2)
        self.fails(BadDeeds, lambda: Book(good + [("x", False)], []), 2)
        self.fails(BadAsks, lambda: Book(good, good + [("y", False)]), 2)
        for word in ("deed", "ask"):
            self.fails(BadAsks, lambda: Book(good, [("a", True), (word, True)]), 1)

    def test_the_specification_itself(self):
        book = build()
        self.assertIsInstance(book["has"], Spec)
        self.assertIs(book["has"], book["has"])
        spec = book["has"]
        spec.drop("in")
        book["has"]["more"] = Limit(NAMED, "fresh", ["no"])
        self.assertEqual(book["has"].names, ("other", "more"))
        self.assertEqual(spec.names, ("other", "more"))
        self.fails(OtherLetters, lambda: book["has"].__setitem__("x", Sentence(PLAIN, "idle", "put")))

    def test_unknown_asks_and_no_iteration(self):
        book = build()
        for value in STRANGE + ["Has", "put", "has "]:
            self.fails(Unknown, lambda: book[value], value)
            self.fails(Unknown, lambda: book.seen(value, None, None, [None]), value)
        for action in (iter, list, lambda value: "has" in value):
            with self.assertRaises(TypeError):
                action(book)

    def test_copies_are_apart_both_ways(self):
        book = build()
        copy = book.copy()
        self.assertEqual((copy.deeds, copy.asks, entries(copy)), (book.deeds, book.asks, entries(book)))
        self.assertIsNot(copy["has"], book["has"])
        copy["has"].drop("in")
        book["count"]["more"] = Sentence(PLAIN, "idle", "take")
        self.assertEqual((book["has"].names, copy["has"].names), (("in", "other"), ("other",)))
        self.assertEqual((book["count"].names, copy["count"].names), (("again", "more"), ("again",)))

    def test_is_possible(self):
        book = build()
        self.assertIs(book.is_possible(), True)
        book["count"]["x"] = Limit(PLAIN, "always", ["no"])
        book["count"]["y"] = Limit(PLAIN, "fresh", ["yes"])
        self.assertIs(book.is_possible(), False)
        self.assertIs(Book(DEEDS, ASKS).is_possible(), True)

    def test_within(self):
        source = random.Random(1)
        seen = set()
        for _ in range(200):
            one, other = random_book(source), random_book(source)
            if source.random() < 0.3:
                other["has"].trial(lambda spec: None)
                other = one.copy()
                for ask, _ in ASKS:
                    for name in other[ask].names[:1]:
                        other[ask].drop(name)
            wanted = not one.is_possible() or all(within(one[ask], other[ask]) for ask, _ in ASKS)
            self.assertIs(one.within(other), wanted)
            seen.add((one.is_possible(), wanted))
        self.assertEqual(seen, {(True, True), (True, False), (False, True)})

    def test_one_ask_without_an_answerer(self):
        book, other = Book(DEEDS, ASKS), build()
        self.assertFalse(book.within(other))
        book["count"]["x"] = Limit(PLAIN, "fresh", ["no"])
        book["count"]["y"] = Limit(PLAIN, "fresh", ["yes"])
        self.assertTrue(book.within(other))
        self.assertFalse(other.within(book))

    def test_other_deeds(self):
        book = build()
        others = [Book(DEEDS[:2], ASKS), Book(DEEDS[::-1], ASKS), Book(DEEDS, ASKS[:1]), Book(DEEDS, ASKS[::-1]),
                  Book([("put", True), ("clear", True), ("take", True)], ASKS),
                  Book(DEEDS, [("has", True), ("count", True)])]
        for other in others:
            self.fails(OtherDeeds, lambda: book.within(other))
            self.fails(OtherDeeds, lambda: other.within(book))
            program = random_program(random.Random(1), other)
            self.fails(OtherDeeds, lambda: book.unkept(program))
            self.assertIs(book.admits(program), False)


class SeenTest(Case):
    def test_plain_and_named(self):
        book = Book(DEEDS, ASKS)
        runs = [("put", "k", 2), ("put", "j", 3), ["put", "i", 1], ("clear", "", 4), ("take", "j", 1), ("take", "k", 1)]
        seen = book.seen("has", "k", "new", runs)
        self.assertIsInstance(seen, History)
        self.assertEqual(seen, History(NAMED, "new", [("put", 2), ("~put", 4), ("clear", 4), ("~take", 1), ("take", 1)]))
        self.assertEqual(book.seen("has", "9", "found", tuple(runs)).runs,
                         (("~put", 6), ("clear", 4), ("~take", 2)))
        self.assertEqual(book.seen("count", "", "found", runs),
                         History(PLAIN, "found", [("put", 6), ("clear", 4), ("take", 2)]))
        self.assertEqual(book.seen("count", "", "new", []).runs, ())

    def test_names_exchanged_one_for_one(self):
        source = random.Random(2)
        book = Book(DEEDS, ASKS)
        other = {"k": "x1", "j": "0", "i": "k"}
        for _ in range(60):
            runs = [(word, source.choice("kji") if is_named else "", source.randrange(1, 4))
                    for word, is_named in source.choices(DEEDS, k=6)]
            changed = [(word, other.get(name, name), count) for word, name, count in runs]
            for name in "kji":
                self.assertEqual(book.seen("has", name, "new", runs), book.seen("has", other[name], "new", changed))
            self.assertEqual(book.seen("count", "", "new", runs), book.seen("count", "", "new", changed))

    def test_large_counts(self):
        book = Book(DEEDS, ASKS)
        runs = [("put", "a", 10 ** 30), ("put", "b", 10 ** 30)]
        self.assertEqual(book.seen("has", "c", "new", runs).runs, (("~put", 2 * 10 ** 30),))
        self.assertEqual(book.seen("has", "a", "new", runs).runs, (("put", 10 ** 30), ("~put", 10 ** 30)))

    def test_four_hundred_runs(self):
        book = Book(DEEDS, ASKS)
        turns = [("put", "a", 1), ("put", "b", 1)] * 201
        self.assertEqual(book.seen("count", "", "new", turns).runs, (("put", 402),))
        self.assertEqual(len(book.seen("has", "a", "new", turns[:400]).runs), 400)
        self.fails(TooMany, lambda: book.seen("has", "a", "new", turns[:401]), "runs", 401, 400)
        self.fails(TooMany, lambda: book.seen("has", "b", "new", turns), "runs", 402, 400)
        self.assertEqual(len(book.seen("has", "c", "new", turns).runs), 1)

    def test_names_of_asks(self):
        book = Book(DEEDS, ASKS)
        for value in NO_OBJECTS:
            self.fails(BadName, lambda: book.seen("has", value, None, [None]), value)
        for value in [value for value in STRANGE if value != ""] + ["k"]:
            self.fails(BadName, lambda: book.seen("count", value, None, [None]), value)
        for name in ("a", "0", "9" * 60, "deed", "new"):
            self.assertEqual(book.seen("has", name, "new", [("put", name, 1)]).runs, (("put", 1),))

    def test_beginnings(self):
        for value in STRANGE + ["NEW"]:
            self.fails(BadBeginning, lambda: Book(DEEDS, ASKS).seen("has", "k", value, [None]))

    def test_errors_run_by_run(self):
        book = Book(DEEDS, ASKS)
        good = ("put", "k", 1)

        def see(run):
            """See a right run, this one and a wrong one."""
            return book.seen("count", "", "new", [good, run, None])
        for run in STRANGE + [("put", "k"), ("put", "k", 1, 1), ("Put", "k", 1), ("~put", "k", 1), (None, None, None),
                              (["put"], "k", 1), "put", ("has", "k", 1), {"put": 1, "k": 1, "x": 1}]:
            self.fails(BadRuns, lambda: see(run), 1)
        for value in NO_OBJECTS:
            self.fails(BadName, lambda: see(("take", value, 0)), value)
        for value in [value for value in STRANGE if value != ""] + ["k"]:
            self.fails(BadName, lambda: see(("clear", value, 0)), value)
        for value in [value for value in STRANGE if not (type(value) is int and value == 1)] + [0, 10 ** 30 + 1, "1"]:
            self.fails(BadCount, lambda: see(("put", "k", value)), 1)
            self.fails(BadCount, lambda: see(("clear", "", value)), 1)
        self.fails(BadRuns, lambda: see(good), 2)
        self.fails(BadCount, lambda: book.seen("has", "k", "new", [("put", "k", 0)] + [("put", "", 1)] * 3), 0)
        many = [("put", "a", 1), ("put", "b", 1)] * 210
        self.fails(BadRuns, lambda: book.seen("has", "a", "new", many + [None]), 420)


class ProgramTest(Case):
    def test_answers(self):
        source = random.Random(3)
        book = Book(DEEDS, ASKS)
        for _ in range(40):
            machines = {ask: random_answerer(source, book[ask].letters, 3) for ask, _ in ASKS}
            program = Program(book, machines)
            runs = [(word, source.choice("kji") if is_named else "", source.randrange(1, 4))
                    for word, is_named in source.choices(DEEDS, k=5)]
            for ask, name in (("has", "k"), ("has", "zz"), ("count", "")):
                self.assertEqual(program(ask, name, "new", runs), machines[ask](book.seen(ask, name, "new", runs)))
            changed = [(word, {"k": "j", "j": "k"}.get(name, name), count) for word, name, count in runs]
            self.assertEqual(program("has", "k", "found", runs), program("has", "j", "found", changed))

    def test_both_kinds_of_answerers(self):
        book = Book(DEEDS, ASKS)
        tops = {top: "x" + str(at) for at, top in enumerate(("new", "found") + PLAIN.words)}
        program = Program(book, {"has": Machine(NAMED, [[0] * 5], ["yes"]), "count": Answerer(close(PLAIN, []), tops),
                                 "further": None})
        self.assertEqual(program("has", "k", "new", []), "yes")
        self.assertEqual(program("count", "", "new", [("put", "k", 10 ** 30), ("clear", "", 1)]), tops["clear"])
        self.assertTrue(book.admits(program))

    def test_wrong_answerers(self):
        book = Book(DEEDS, ASKS)
        has, count = Machine(NAMED, [[0] * 5], ["yes"]), Machine(PLAIN, [[0] * 3], ["no"])
        self.fails(BadProgram, lambda: Program(book, {}), "has")
        self.fails(BadProgram, lambda: Program(book, {"count": count}), "has")
        self.fails(BadProgram, lambda: Program(book, {"has": has}), "count")
        self.fails(BadProgram, lambda: Program(book, {"has": count, "count": has}), "has")
        self.fails(BadProgram, lambda: Program(book, {"has": has, "count": has}), "count")
        order = Letters(["clear", "put", "take"])
        self.fails(BadProgram, lambda: Program(book, {"has": has, "count": Machine(order, [[0] * 3], ["a"])}), "count")
        self.fails(BadProgram, lambda: Program(book, {"count": count, "has": None}), "has")

    def test_a_dict_that_is_changed_after_the_call(self):
        book = Book(DEEDS, ASKS)
        machines = {"has": Machine(NAMED, [[0] * 5], ["yes"]), "count": Machine(PLAIN, [[0] * 3], ["no"])}
        program = Program(book, machines)
        machines["has"] = Machine(NAMED, [[0] * 5], ["never"])
        del machines["count"]
        self.assertEqual((program("has", "k", "new", []), program("count", "", "new", [])), ("yes", "no"))

    def test_errors_of_seen(self):
        program = random_program(random.Random(4), Book(DEEDS, ASKS))
        self.fails(Unknown, lambda: program("put", "", "new", []), "put")
        self.fails(BadName, lambda: program("has", "", "old", []), "")
        self.fails(BadBeginning, lambda: program("has", "k", "old", [None]))
        self.fails(BadRuns, lambda: program("has", "k", "new", [None]), 0)
        self.fails(BadName, lambda: program("has", "k", "new", [("clear", "k", 1)]), "k")
        self.fails(BadCount, lambda: program("has", "k", "new", [("put", "k", 0)]), 0)

    def test_admits_and_unkept(self):
        source = random.Random(5)
        seen = set()
        for _ in range(400):
            book = random_book(source)
            program = random_program(source, book, source.choice((1, 2)))
            broken = [(ask, book[ask].unkept(program.answerers[ask])) for ask, _ in ASKS
                      if book[ask].unkept(program.answerers[ask]) is not None]
            self.assertEqual(book.unkept(program), broken[0] if broken else None)
            self.assertIs(book.admits(program), not broken)
            seen.add(tuple(ask for ask, _ in broken))
        self.assertEqual(seen, {(), ("has",), ("count",), ("has", "count")})

    def test_a_program_of_another_book(self):
        book = build()
        machines = {"has": Machine(NAMED, [[0] * 5], ["yes"]), "count": Machine(PLAIN, [[0] * 3], ["no"])}
        program = Program(Book(DEEDS, ASKS), machines)
        self.assertIs(book.admits(program), True)
        self.assertIsNone(book.unkept(program))
        book["has"]["no"] = Limit(NAMED, "always", ["no"])
        self.assertEqual(book.unkept(program), ("has", "no"))

    def test_other_values(self):
        book = build()
        for value in STRANGE + [book, book["has"], Machine(PLAIN, [[0] * 3], ["no"]), Program]:
            self.assertIs(book.admits(value), False)

    def test_within_and_programs(self):
        source = random.Random(6)
        kept = 0
        for _ in range(150):
            one, other = random_book(source), random_book(source)
            if one.within(other):
                for _ in range(10):
                    program = random_program(source, one, 1)
                    if one.admits(program):
                        kept += 1
                        self.assertTrue(other.admits(program))
        self.assertGreater(kept, 5)


if __name__ == "__main__":
    unittest.main()
