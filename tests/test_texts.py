import random
import unittest

from asksmore.asked import After, Same, State
from asksmore.books import Book
from asksmore.errors import BadText
from asksmore.letters import Letters
from asksmore.sentences import Limit, Sentence
from asksmore.sorts import Sort
from asksmore.specs import Spec
from asksmore.texts import (read_book, read_item, read_sort, read_spec, read_test, write_book, write_sort, write_spec,
                            write_test)
from tests import grammar
from tests.fairness import random_test
from tests.listing import every_limit, random_spec
from tests.machines import AB, ABC, random_sort
from tests.own import Case, every_sentence
from tests.test_books import ASKS, DEEDS, entries, random_book

WAVED = Letters(["put", "~put", "clear"])
BENT = ["", "a", "b", "c", "~a", "put", "~put", "zz", "A", "a b", "kept", "alike", "idle", "always", "fresh", "behind",
        "no", "yes", "x1", "x2", "x3", "x4", "x5", ":", "/", "ends", "0:a:0", "0:b:1", "39:a:39", "40:a:0", "0:a:40",
        "00:a:0", "0:a:01", "0:c:0", "0::0", "0:a", "0:a:0:0", "-1:a:0", "0", "1", "39", "40", "00", "01", "+1", "1_0",
        "new", "found", "after", "same", "state", "no\nyes", "\n", "deed", "ask", "plain", "named", "has", "count",
        "letters", "a" * 12, "a" * 13, "1a", "\u00b2", "\u0661", "0:\u0661:0", "a\t", "a\r"]


def bent(source, text):
    """A text with one or two words, or line feeds, bent."""
    for _ in range(source.choice((1, 1, 2))):
        lines = text.split("\n")
        row = source.randrange(len(lines))
        words = lines[row].split(" ")
        place = source.randrange(len(words))
        way = source.randrange(7)
        if way <= 2:
            words[place] = source.choice(BENT)
        elif way == 3:
            words.insert(source.randrange(len(words) + 1), source.choice(BENT + words))
        elif way == 4:
            words.pop(place)
        elif way == 5:
            words = words[:place]
        lines[row] = " ".join(words)
        if way == 6:
            lines.insert(source.randrange(len(lines) + 1), source.choice(lines + ["", " "]))
        text = "\n".join(lines)
    return text


def grown(letters, states):
    """A sort with so many states."""
    return Sort.only(letters, [letters.words[0]] * (states - 1))


class TextCase(Case):
    def asked(self, read, wrong, text):
        """Whether a text is read, where it must be; else whether the first wrong word is told."""
        if wrong is None:
            read(text)
        else:
            self.fails(BadText, lambda: read(text), *wrong)
        return wrong

    def bend(self, source, read, wrong_in, text, times):
        """Bend a text several times."""
        seen = set()
        for _ in range(times):
            changed = bent(source, text)
            seen.add(self.asked(read, wrong_in(changed), changed) is None)
        return seen


def on_line(rule):
    """What is wrong in a text of one line."""
    def wrong(text):
        """The line, which is 1, and the place of the first wrong word, or None."""
        place = grammar.wrong_place(rule(), text)
        return None if place is None else (1, place)
    return wrong


class ItemTest(TextCase):
    def test_example(self):
        self.assertEqual(str(read_item(AB, "over a b")), "over a b")
        self.fails(BadText, lambda: read_item(AB, "kept a  b"), 1, 3)

    def test_what_is_written_is_read(self):
        for letters in (AB, ABC, WAVED):
            for item in every_sentence(letters) + every_limit(letters, ["no", "yes", "x1", "b", "c", "d"]):
                self.assertEqual(read_item(letters, str(item)), item)
        self.assertEqual(read_item(AB, "always yes no yes b no"), Limit(AB, "always", ["b", "no", "yes"]))
        self.assertEqual(read_item(AB, "alike a b"), Sentence(AB, "alike", "b", "a"))
        self.assertEqual(read_item(AB, "over a a"), Sentence(AB, "kept", "a", "a"))
        self.assertEqual(read_item(AB, "fresh new found ends a b"), Limit(AB, "fresh", ["a", "b", "ends", "found", "new"]))

    def test_wrong_words(self):
        wrong = {"": 1, " ": 1, " idle a": 1, "idle": 2, "idle ": 2, "idle c": 2, "idle a ": 3, "idle a b": 3,
                 "idle  a": 2, "kept a": 3, "kept a c": 3, "kept c c": 2, "kept a b b": 4, "alike a a": 3, "alike a": 3,
                 "Idle a": 1, "same a b": 1, "always": 2, "always ": 2, "always no ": 3, "always No": 2,
                 "always a b c d e f g": 8, "always a b c d e f a": None, "behind a": 3, "behind no a": 2,
                 "behind b a b c d e f a g": 10, "fresh 1": 2, "fresh a\nb": 2, "idle a\n": 2, "\nidle a": 1,
                 "idle\na": 1, "fresh a  b": 3}
        for line, place in wrong.items():
            self.asked(lambda text: read_item(AB, text), place and (1, place), line)

    def test_bent_lines(self):
        source = random.Random(1)
        seen = set()
        for letters in (AB, WAVED):
            for item in every_sentence(letters) + every_limit(letters, ["no", "yes", "x1", "x2", "x3", "x4"]):
                seen |= self.bend(source, lambda text: read_item(letters, text), on_line(lambda: grammar.item(letters)),
                                  str(item), 25)
        self.assertEqual(seen, {True, False})


class SortTest(TextCase):
    def test_what_is_written(self):
        one = Sort(AB, [(0, "a", 0), (0, "b", 1)], [1])
        self.assertEqual(write_sort(one), "0:a:0 0:b:1 ends 1")
        self.assertEqual(write_sort(Sort.nothing(AB)), "ends")
        self.assertEqual(write_sort(Sort.every(WAVED)), "0:put:0 0:~put:0 0:clear:0 ends 0")
        self.assertEqual(read_sort(AB, "ends"), Sort.nothing(AB))
        self.assertEqual(read_sort(AB, "ends 0"), Sort.only(AB, []))

    def test_what_is_written_is_read(self):
        source = random.Random(2)
        for _ in range(80):
            sort = random_sort(source, source.choice((AB, ABC, WAVED)), source.randrange(1, 9))
            line = write_sort(sort)
            self.assertEqual(read_sort(sort.letters, line), sort)
            rows, ends = line.split(" ends") if " ends" in line else ("", line[4:])
            mixed, ends = rows.split(), ends.split()
            source.shuffle(mixed)
            ends = ends + ends
            source.shuffle(ends)
            self.assertEqual(read_sort(sort.letters, " ".join([*mixed, "ends", *ends])), sort)

    def test_states_to_thirty_nine(self):
        wide = grown(AB, 40)
        self.assertEqual(read_sort(AB, write_sort(wide)), wide)
        self.assertEqual(read_sort(AB, "0:a:39 39:b:20 ends 20"), Sort.only(AB, ["a", "b"]))
        self.assertEqual(read_sort(AB, "7:a:9 0:b:12 30:a:1 ends 12 39"), Sort.only(AB, ["b"]))
        for line, place in (("0:a:40 ends", 1), ("40:a:0 ends", 1), ("0:a:1 ends 40", 3), ("0:a:39 ends 39 040", 4),
                            ("0:a:100 ends", 1)):
            self.fails(BadText, lambda: read_sort(AB, line), 1, place)

    def test_wrong_words(self):
        wrong = {"": 1, "0:a:0": 2, "0:a:0 ": 2, "ends ": 2, "ends ends": 2, "ends 0 0:a:0": 3, "0:a:00 ends": 1,
                 "00:a:0 ends": 1, "0:a:0 0:a:0 ends": 2, "0:a:0 0:b:0 0:a:1 ends": 3, "0:c:0 ends": 1, "0:a ends": 1,
                 "0:a:0:0 ends": 1, "a:0:0 ends": 1, "ends -1": 2, "ends 1 01": 3, " ends": 1, "0:a:0  ends": 2,
                 "0:a:0\nends": 1, "ends\n0": 1, "ends +1": 2, "ends 0 ": 3, "1_0:a:0 ends": 1}
        for line, place in wrong.items():
            self.fails(BadText, lambda: read_sort(AB, line), 1, place)

    def test_bent_lines(self):
        source = random.Random(3)
        seen = set()
        for _ in range(150):
            sort = random_sort(source, AB, source.randrange(1, 5))
            seen |= self.bend(source, lambda text: read_sort(AB, text), on_line(lambda: grammar.sort(AB)),
                              write_sort(sort), 8)
        self.assertEqual(seen, {True, False})


class TestTest(TextCase):
    def test_what_is_written(self):
        every = Sort.every(AB)
        self.assertEqual(write_test(Same("new", every, [], ["a"])), "same new / a : 0:a:0 0:b:0 ends 0")
        self.assertEqual(write_test(State("found", every, ["a", "b"], [])), "state found a b / : 0:a:0 0:b:0 ends 0")
        self.assertEqual(write_test(After("found", Sort.nothing(AB), ["yes", "no"])), "after found no yes : ends")

    def test_what_is_written_is_read(self):
        source = random.Random(4)
        for _ in range(150):
            test = random_test(source, source.choice((AB, ABC)))
            found = read_test(test.letters, write_test(test))
            self.assertIs(type(found), type(test))
            self.assertEqual(found, test)
        six = Same("new", grown(WAVED, 40), ["~put"] * 6, ["clear"] * 6)
        self.assertEqual(read_test(WAVED, write_test(six)), six)
        answers = After("new", grown(AB, 13), [f"a{at}" for at in range(6)])
        self.assertEqual(read_test(AB, write_test(answers)), answers)
        self.assertEqual(read_test(AB, "after new b a b : ends 0"), After("new", Sort.only(AB, []), ["a", "b"]))

    def test_wrong_words(self):
        wrong = {"": 1, "after": 2, "after new": 3, "after new :": 3, "after new : ends": 3, "after old a : ends": 2,
                 "after new a": 4, "after new a :": 5, "after new a : ends 0 x": 7, "after new a b c d e f g : ends": 9,
                 "after new a b c d e f f : ends": None, "after new a  : ends": 4, "after new A : ends": 3,
                 "same new": 3, "same new a b": 5, "same new / ": 4, "same new /": 4, "same new / :": 5,
                 "same new : / : ends": 3, "same new a a a a a a a / : ends": 9, "same new a a a a a a / : ends": None,
                 "state found / b b b b b b b : ends": 10, "state found / b b b b b b : ends": None,
                 "state new / c : ends": 4, "state new c / : ends": 3, "state  new / : ends": 2,
                 "state new / / : ends": 4, "same new / : ends\n": 5, "same new / : 0:a:0 0:a:0 ends": 6,
                 "same\nnew / : ends": 1, "is new / : ends": 1}
        for line, place in wrong.items():
            self.asked(lambda text: read_test(AB, text), place and (1, place), line)

    def test_bent_lines(self):
        source = random.Random(5)
        seen = set()
        for _ in range(300):
            test = random_test(source, AB)
            seen |= self.bend(source, lambda text: read_test(AB, text), on_line(lambda: grammar.test(AB)),
                              write_test(test), 8)
        self.assertEqual(seen, {True, False})


class SpecTest(TextCase):
    def test_what_is_written(self):
        spec = Spec(WAVED)
        self.assertEqual(write_spec(spec), "letters put ~put clear")
        spec["b"] = Sentence(WAVED, "undone", "put", "clear")
        spec["a1"] = Limit(WAVED, "behind", ["yes", "no"], "~put")
        self.assertEqual(write_spec(spec), "letters put ~put clear\nb undone put clear\na1 behind ~put no yes")

    def test_what_is_written_is_read(self):
        source = random.Random(6)
        for _ in range(80):
            spec = random_spec(source, source.choice((AB, ABC, WAVED)), 4, 4)
            self.assert_equal(read_spec(write_spec(spec)), spec)

    def assert_equal(self, one, other):
        """The letters and entries are equal, and so is what rests on them."""
        self.assertIsInstance(one, Spec)
        self.assertEqual((one.letters, one.entries), (other.letters, other.entries))
        self.assertEqual((one.closing.told, one.closing.form(), one.limits),
                         (other.closing.told, other.closing.form(), other.limits))

    def test_what_is_read_may_be_changed(self):
        spec = read_spec("letters a b\nx idle a\ny fresh no")
        spec["z"] = Sentence(AB, "still", "b")
        spec.drop("x")
        self.assertEqual(write_spec(spec), "letters a b\ny fresh no\nz still b")

    def test_twelve_letters_and_sixty_names(self):
        letters = Letters(["x" + str(at) for at in range(12)])
        spec = Spec(letters)
        for at in range(60):
            spec[f"s{at}"] = Limit(letters, "fresh", ["no"])
        text = write_spec(spec)
        self.assert_equal(read_spec(text), spec)
        self.fails(BadText, lambda: read_spec(text + "\nmore fresh no"), 62, 1)
        self.fails(BadText, lambda: read_spec(text + "\nmore"), 62, 1)
        self.fails(BadText, lambda: read_spec(text.replace("x11", "x11 y")), 1, 14)

    def test_wrong_words(self):
        wrong = {"": (1, 1), "letters": (1, 2), "letters ": (1, 2), "Letters a": (1, 1), "letters a b a": (1, 4),
                 "letters new": (1, 2), "letters a A": (1, 3), "letters a ~": (1, 3), "letters a ": (1, 3),
                 "letters a\n": (2, 1), "letters a\n\nx idle a": (2, 1), "letters a\nx idle a\n": (3, 1),
                 "letters a\nx": (2, 2), "letters a\nx idle": (2, 3), "letters a\nx idle b": (2, 3),
                 "letters a\nx idle a a": (2, 4), "letters a\nx idle a\nx still a": (3, 1),
                 "letters a\nX idle a": (2, 1), "letters a\n x idle a": (2, 1), "letters a\nx  idle a": (2, 2),
                 "letters a\nx idle b\nx idle b": (2, 3), "\nletters a": (1, 1), "letters a\r\nx idle a": (1, 2),
                 "letters a\nletters idle a": None, "letters a ~a\nnew alike a ~a": None}
        for text, place in wrong.items():
            self.asked(read_spec, place, text)
            self.assertEqual(grammar.wrong_in_spec(text), place)

    def test_bent_texts(self):
        source = random.Random(7)
        seen = set()
        for _ in range(120):
            spec = random_spec(source, source.choice((AB, WAVED)), 3, 3)
            seen |= self.bend(source, read_spec, grammar.wrong_in_spec, write_spec(spec), 20)
        self.assertEqual(seen, {True, False})


class BookTest(TextCase):
    def test_what_is_written(self):
        book = Book(DEEDS, ASKS)
        head = "deed put named\ndeed clear plain\ndeed take named\nask has named\nask count plain"
        self.assertEqual(write_book(book), head)
        book["count"]["x"] = Sentence(book["count"].letters, "kept", "clear", "clear")
        book["has"]["x"] = Limit(book["has"].letters, "behind", ["yes"], "~put")
        self.assertEqual(write_book(book), head + "\nhas x behind ~put yes\ncount x kept clear clear")

    def test_what_is_written_is_read(self):
        source = random.Random(8)
        for _ in range(60):
            book = random_book(source)
            text = write_book(book)
            self.assert_equal(read_book(text), book)
            lines = text.split("\n")
            mixed = lines[5:]
            source.shuffle(mixed)
            found = read_book("\n".join(lines[:5] + mixed))
            for ask, _ in ASKS:
                self.assertEqual(found[ask].entries, tuple(
                    (line.split(" ")[1], book[ask][line.split(" ")[1]]) for line in mixed if line.split(" ")[0] == ask))

    def assert_equal(self, one, other):
        """Deeds, asks and entries are equal."""
        self.assertIsInstance(one, Book)
        self.assertEqual((one.deeds, one.asks, entries(one)), (other.deeds, other.asks, entries(other)))
        for ask, _ in one.asks:
            self.assertEqual(one[ask].closing.form(), other[ask].closing.form())

    def test_what_is_read_may_be_changed(self):
        book = read_book("deed put named\nask put plain\nput a idle put")
        book["put"]["b"] = Limit(book["put"].letters, "fresh", ["no"])
        self.assertEqual(write_book(book), "deed put named\nask put plain\nput a idle put\nput b fresh no")

    def test_numbers(self):
        deeds = "\n".join([f"deed d{at} plain" for at in range(6)])
        asks = "\n".join([f"ask a{at} named" for at in range(8)])
        names = "\n".join([f"a3 s{at} idle d0" for at in range(60)])
        full = f"{deeds}\n{asks}\n{names}"
        self.assertEqual(write_book(read_book(full)), full)
        self.fails(BadText, lambda: read_book(f"{deeds}\ndeed d6 plain\n{asks}"), 7, 2)
        self.fails(BadText, lambda: read_book(f"{deeds}\n{asks}\nask a8 plain"), 15, 2)
        self.fails(BadText, lambda: read_book(f"{full}\na3 more idle d0"), 75, 2)
        self.assertEqual(len(read_book(f"{full}\na4 s0 idle d0")["a4"]), 1)

    def test_wrong_words(self):
        head = "deed put named\ndeed clear plain\nask has named\nask count plain"
        wrong = {"": (1, 1), "deed": (1, 2), "deed put": (1, 3), "deed put plain": (2, 1), "deed put both": (1, 3),
                 "deed put plain x": (1, 4), "deed put plain ": (1, 4), "deed ~put named": (1, 2), "deed new plain": (1, 2),
                 "ask has plain": (1, 1), "deed put plain\n": (2, 1), "deed put plain\nask": (2, 2),
                 "deed put plain\nask has": (2, 3), "deed put plain\ndeed put named\nask a plain": (2, 2),
                 "deed put plain\nask deed plain": (2, 2), "deed put plain\nask ask plain": (2, 2),
                 "deed put plain\nask a plain\nask a named": (3, 2), "deed put plain\nput x idle put": (2, 1),
                 "deed put plain\nask put plain\nput x idle put": None, "deed deed plain\nask a plain\na x idle deed": None,
                 head: None, f"{head}\n": (5, 1), f"{head}\ndeed x plain": (5, 1), f"{head}\nhas": (5, 2),
                 f"{head}\nhas a idle ~put": None, f"{head}\ncount a idle ~put": (5, 4), f"{head}\nhas a": (5, 3),
                 f"{head}\nhas a idle put\nask more plain": (6, 1), f"{head}\nhas a idle put\ndeed more plain": (6, 1),
                 f"{head}\nhas a idle put\ncount a idle put\nhas a idle put": (7, 2), f"{head}\nhis a idle put": (5, 1),
                 f"{head}\nhas A idle put": (5, 2), f"{head}\nhas  idle put": (5, 2), f"{head}\nhas a idle put ": (5, 5),
                 f"\n{head}": (1, 1), f"deed put plain\n\nask a plain": (2, 1), " deed put plain": (1, 1)}
        for text, place in wrong.items():
            self.asked(read_book, place, text)
            self.assertEqual(grammar.wrong_in_book(text), place)

    def test_bent_texts(self):
        source = random.Random(9)
        seen = set()
        for _ in range(120):
            book = random_book(source)
            seen |= self.bend(source, read_book, grammar.wrong_in_book, write_book(book), 20)
        self.assertEqual(seen, {True, False})


if __name__ == "__main__":
    unittest.main()
