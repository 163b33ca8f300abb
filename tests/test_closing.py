"""Points 8, 9 and 16: closed forms and the rows that show them."""

import itertools
import random
import unittest

from asksmore.chains import is_rows
from asksmore.closing import Closing, close
from asksmore.errors import BadLetter, BadTold, NotLive, TooMany
from asksmore.halves import menu
from asksmore.letters import Letters
from asksmore.sentences import Limit, Sentence
from tests.own import SIDES, STRANGE, Case, every_sentence, own_form, random_told, sides, walked

AB = Letters(["a", "b"])
ABC = Letters(["a", "b", "c"])
ABCD = Letters(["a", "b", "c", "d"])
TWELVE = Letters([f"l{number}" for number in range(12)])


def told(letters, *texts):
    return [Sentence(letters, *text.split()) for text in texts]


def texts(closing):
    return [str(sentence) for sentence in closing.form()]


class FormTest(Case):
    def check(self, letters, given, wanted):
        self.assertEqual(texts(close(letters, told(letters, *given))), wanted)

    def test_examples(self):
        self.check(ABC, ["undone a b", "undone b c"], ["alike c a", "undone a b", "undone b a"])
        deeds = Letters(["drop", "clear"])
        self.check(deeds, ["kept clear drop", "still clear"], ["still drop", "still clear", "kept clear drop"])

    def test_nothing_told(self):
        closing = close(AB, [])
        self.assertEqual((closing.letters, closing.told, closing.rows, closing.form()), (AB, (), (), ()))
        self.assertIsInstance(closing, Closing)
        self.assertEqual([closing.least("a"), closing.pair("a", "b"), closing.is_still("a")], ["a", None, False])

    def test_one_sentence_of_each_kind(self):
        for text in ["idle a", "idle b", "kept a b", "kept b a", "kept a a", "still a", "still b", "over a b",
                     "over b a", "undone a b", "undone b a", "undone b b", "alike b a"]:
            self.check(AB, [text], [text])
        self.check(AB, ["over a a"], ["kept a a"])
        self.check(AB, ["alike a b"], ["alike b a"])

    def test_two_that_share_letters(self):
        self.check(AB, ["kept a b", "over a b"], ["alike b a", "kept a a"])
        self.check(AB, ["kept a b", "undone a b"], ["idle a", "idle b"])
        self.check(AB, ["over a b", "undone a b"], ["idle a", "idle b"])
        self.check(AB, ["kept a a", "undone a a"], ["idle a"])
        self.check(ABC, ["kept a b", "kept b c"], ["kept a b", "kept a c", "kept b c"])
        self.check(ABC, ["kept a b", "over b c"], ["kept a b", "over b c"])
        self.check(ABC, ["kept a b", "undone b c"], ["kept a b", "kept a c", "undone b c"])
        self.check(ABC, ["over a b", "kept b c"], ["over a b", "kept b c"])
        self.check(ABC, ["over a b", "over b c"], ["over a b", "over a c", "over b c"])
        self.check(ABC, ["over a b", "undone b c"], ["idle a", "undone b c"])
        self.check(ABC, ["undone a b", "kept b c"], ["idle c", "undone a b"])
        self.check(ABC, ["undone a b", "over b c"], ["undone a b", "over a c", "over b c"])
        self.check(ABC, ["alike c a", "over c b"], ["alike c a", "over a b"])
        self.check(ABC, ["alike c a", "kept c c"], ["alike c a", "kept a a"])

    def test_chains_of_one_kind(self):
        letters = list("abcdef")
        six = Letters(letters)
        pairs = list(zip(letters, letters[1:]))
        all_pairs = list(itertools.combinations(letters, 2))
        for kind in ("kept", "over"):
            self.check(six, [f"{kind} {x} {y}" for x, y in pairs], [f"{kind} {x} {y}" for x, y in all_pairs])
        self.check(six, [f"undone {x} {y}" for x, y in pairs],
                   ["alike c a", "alike d b", "alike e a", "alike f b", "undone a b", "undone b a"])
        self.check(six, [f"alike {x} {y}" for x, y in pairs], [f"alike {x} a" for x in letters[1:]])
        self.check(six, [f"alike {y} {x}" for x, y in pairs[::-1]], [f"alike {x} a" for x in letters[1:]])

    def test_still_with_each_kind(self):
        self.check(AB, ["still a", "idle a"], ["idle a"])
        self.check(AB, ["still a", "idle b"], ["idle b", "still a"])
        self.check(AB, ["still a", "kept a b"], ["still a", "still b", "kept a b"])
        self.check(AB, ["still b", "kept a b"], ["still b", "kept a b"])
        self.check(AB, ["still a", "over a b"], ["still a", "over a b"])
        self.check(AB, ["still b", "over a b"], ["still b", "over a b"])
        self.check(AB, ["still a", "undone a b"], ["still a", "still b", "undone a b"])
        self.check(AB, ["still b", "undone a b"], ["still b", "undone a b"])
        self.check(AB, ["still a", "alike a b"], ["alike b a", "still a"])
        self.check(AB, ["still b", "alike a b"], ["alike b a", "still a"])
        self.check(AB, ["still a", "still b"], ["still a", "still b"])

    def test_idle_letters_beside_pairs(self):
        self.check(ABC, ["idle b", "kept a b"], ["idle b"])
        self.check(ABC, ["idle a", "kept a b"], ["idle a", "idle b"])
        self.check(ABC, ["idle b", "over a b"], ["idle a", "idle b"])
        self.check(ABC, ["idle a", "over a b"], ["idle a"])
        self.check(ABC, ["idle a", "undone a b", "alike c b"], ["idle a", "idle b", "idle c"])
        self.check(ABC, ["idle b", "undone a c"], ["idle b", "undone a c"])

    def test_least_letter_of_a_class(self):
        closing = close(ABCD, told(ABCD, "alike d c", "alike c b", "still d", "kept d c"))
        self.assertEqual([closing.least(x) for x in ABCD], ["a", "b", "b", "b"])
        self.assertEqual(texts(closing), ["alike c b", "alike d b", "still b", "kept b b"])

    def test_against_a_search_for_two_letters(self):
        sentences = every_sentence(AB)
        for given in itertools.combinations(sentences, 2):
            self.assertEqual(texts(close(AB, list(given))), own_form(AB, given, 5))

    def test_against_a_search_for_more_letters(self):
        source = random.Random(9)
        for letters, most, times in ((ABC, 5, 150), (ABCD, 4, 80)):
            for _ in range(times):
                given = random_told(source, letters, source.randint(1, 5))
                self.assertEqual(texts(close(letters, given)), own_form(letters, given, most))

    def test_only_what_is_one_counts(self):
        source = random.Random(16)
        for _ in range(150):
            letters = source.choice([AB, ABC, ABCD, TWELVE])
            given = random_told(source, letters, source.randint(0, 12))
            form = close(letters, given).form()
            turned = given[::-1]
            source.shuffle(given)
            for other in (given, turned, given + given, list(form), given + list(form)[:40], tuple(given)):
                self.assertEqual(close(letters, other).form(), form)

    def test_never_two_at_once(self):
        source = random.Random(61)
        for _ in range(100):
            given = random_told(source, ABCD, source.randint(0, 8))
            form = close(ABCD, given).form()
            pairs = [(s.first, s.second) for s in form if s.kind in ("kept", "over", "undone")]
            self.assertEqual(len(pairs), len(set(pairs)))
            self.assertFalse(any(s.kind == "over" and s.first == s.second for s in form))


def struck_by(rules, beginning, word):
    """A word struck by rules, from left sides to right sides, in the order of its places."""
    for place in range(len(word)):
        for size in (1, 2):
            left = word[place:place + size]
            if left in rules["found"]:
                return struck_by(rules, beginning, word[:place] + rules["found"][left] + word[place + size:])
    if beginning == "new" and word[:1] in rules["new"]:
        return struck_by(rules, beginning, word[1:])
    return word


class TogetherTest(Case):
    """No order of using the sentences of the form makes a difference, and each told sentence holds by them."""

    def check(self, letters, given):
        closing = close(letters, given)
        rules = {"found": {}, "new": {}}
        for sentence in closing.form():
            left, right = sides(sentence)
            rules[sentence.left.beginning][tuple(left)] = tuple(right)
        for sentence in given:
            beginning = sentence.left.beginning
            ends = [struck_by(rules, beginning, tuple(side)) for side in sides(sentence)]
            self.assertEqual(ends[0], ends[1])
        for beginning in ("new", "found"):
            for word in itertools.product(letters, repeat=3):
                self.assertEqual(len({struck_by(rules, beginning, other) for other in self.changed(rules, word)}), 1)
        for y, z in itertools.product(letters, letters):
            if (y,) in rules["new"] and (y, z) in rules["found"]:
                self.assertEqual(struck_by(rules, "new", (z,)), struck_by(rules, "new", rules["found"][y, z]))

    def changed(self, rules, word):
        """A word, and what one change by a rule that holds everywhere makes of it."""
        found = [word]
        for place in range(len(word)):
            for size in (1, 2):
                right = rules["found"].get(word[place:place + size])
                if right is not None:
                    found.append(word[:place] + right + word[place + size:])
        return found

    def test_three_letters(self):
        kinds = [sentence for sentence in menu(ABC) if sentence.kind in ("kept", "over", "undone")]
        for given in itertools.combinations(kinds, 3):
            self.check(ABC, list(given))

    def test_more_letters_and_all_kinds(self):
        source = random.Random(10)
        for turn in range(300):
            letters = source.choice([AB, ABC, ABCD, Letters(list("abcde"))])
            kinds = [("kept", "over", "undone"), tuple(SIDES)][turn % 2]
            self.check(letters, random_told(source, letters, source.randint(2, 7), kinds))

    def test_what_two_letters_undo_on_both_sides(self):
        # Here a and c are one because b undoes a and c undoes b; that a c is c anyway must not hide it.
        closing = close(ABC, told(ABC, "over a c", "undone a b", "undone b c"))
        self.assertEqual(texts(closing), ["idle a", "idle b", "idle c"])


class AskedTest(Case):
    def test_agrees_with_the_form(self):
        source = random.Random(3)
        for _ in range(100):
            letters = source.choice([ABC, ABCD])
            closing = close(letters, random_told(source, letters, source.randint(0, 6)))
            form = texts(closing)
            for x in letters:
                wanted = [text.split()[2] for text in form if text.startswith(f"alike {x} ")]
                self.assertEqual(closing.least(x), None if f"idle {x}" in form else (wanted or [x])[0])
            self.check_pairs(letters, closing, form)

    def check_pairs(self, letters, closing, form):
        live = [x for x in letters if closing.least(x) == x]
        for x in letters:
            if x in live:
                self.assertIs(closing.is_still(x), f"still {x}" in form)
            else:
                self.fails(NotLive, lambda: closing.is_still(x), 0)
            for y in letters:
                if x not in live:
                    self.fails(NotLive, lambda: closing.pair(x, y), 0)
                elif y not in live:
                    self.fails(NotLive, lambda: closing.pair(x, y), 1)
                else:
                    kinds = [kind for kind in ("kept", "over", "undone") if f"{kind} {x} {y}" in form]
                    self.assertEqual(closing.pair(x, y), (kinds or [None])[0])

    def test_values_that_are_no_letters(self):
        closing = close(ABC, told(ABC, "idle a", "alike c b"))
        for value in [v for v in STRANGE if v != "a"] + ["d", "~a", "new", "found"]:
            self.fails(BadLetter, lambda: closing.least(value), 0)
            self.fails(BadLetter, lambda: closing.is_still(value), 0)
            for other in ("a", "b", "c", value):
                self.fails(BadLetter, lambda: closing.pair(value, other), 0)
            for other in ("a", "b", "c"):
                self.fails(BadLetter, lambda: closing.pair(other, value), 1)
        self.fails(NotLive, lambda: closing.pair("a", "c"), 0)
        self.fails(NotLive, lambda: closing.pair("b", "c"), 1)
        self.assertIsNone(closing.pair("b", "b"))


class ToldTest(Case):
    def test_sixty_and_more(self):
        many = [Sentence(TWELVE, "kept", x, y) for x in TWELVE for y in TWELVE]
        self.assertEqual(len(close(TWELVE, many[:60]).told), 60)
        for size in (61, 144):
            self.fails(TooMany, lambda: close(TWELVE, many[:size]), "sentences", size, 60)
        self.fails(TooMany, lambda: close(TWELVE, [None] * 61), "sentences", 61, 60)
        twice = [Sentence(AB, "idle", "a")] * 60
        self.assertEqual(texts(close(AB, twice)), ["idle a"])

    def test_elements_that_are_no_such_sentence(self):
        good = told(AB, "idle a", "kept a b")
        bad = [value for value in STRANGE if not isinstance(value, Sentence)]
        bad += ["idle a", Limit(AB, "always", ["x"]), Sentence(ABC, "idle", "a"),
                Sentence(Letters(["b", "a"]), "idle", "a"), close(AB, []), good]
        for value in bad:
            self.fails(BadTold, lambda: close(AB, [value]), 0)
            self.fails(BadTold, lambda: close(AB, [good[0], value, good[1], None]), 1)
            self.fails(BadTold, lambda: close(AB, tuple(good) + (value,)), 2)

    def test_equal_letters_will_do(self):
        given = told(Letters(["a", "b"]), "kept a b")
        closing = close(AB, given)
        self.assertEqual(closing.told, tuple(given))
        self.assertIsInstance(closing.told, tuple)
        given.append(None)
        self.assertEqual(len(closing.told), 1)

    def test_first_form_only(self):
        one, other = (close(AB, told(AB, text)) for text in ("over a a", "kept a a"))
        self.assertEqual(one.told, other.told)


class RowsTest(Case):
    def check(self, letters, given):
        closing = close(letters, given)
        rows = closing.rows
        self.assertIsInstance(rows, tuple)
        self.assertEqual(rows[:len(given)], tuple((sentence, ()) for sentence in given))
        sentences = [sentence for sentence, _ in rows]
        for index, (sentence, steps) in enumerate(rows[len(given):], len(given)):
            self.assertTrue(all(isinstance(step, tuple) and step[0] < index for step in steps))
            left, right = sentence.left, sentence.right
            self.assertEqual(walked(sentences, left.beginning, left.word(), steps), right.word())
        self.assertTrue(all(sentence in sentences for sentence in closing.form()))
        self.assertTrue(is_rows(letters, given, rows))

    def test_rows(self):
        source = random.Random(18)
        self.check(AB, [])
        for _ in range(150):
            letters = source.choice([Letters(["a"]), AB, ABC, ABCD, TWELVE])
            given = random_told(source, letters, source.randint(0, 12))
            self.check(letters, given)
            self.check(letters, given + given[:3])

    def test_many_sentences(self):
        source = random.Random(60)
        for kinds in (("kept",), ("over",), ("undone",), ("kept", "still"), ("over", "alike"), ("kept", "undone")):
            self.check(TWELVE, random_told(source, TWELVE, 60, kinds))
            self.check(TWELVE, random_told(source, TWELVE, 14, kinds))

    def test_told_twice(self):
        given = told(ABC, "undone a b", "undone b c", "undone a b", "alike c a")
        rows = close(ABC, given).rows
        self.assertEqual([str(sentence) for sentence, _ in rows[:4]],
                         ["undone a b", "undone b c", "undone a b", "alike c a"])
        self.assertEqual([steps for _, steps in rows[:4]], [(), (), (), ()])
        self.check(ABC, given)

    def test_one_more_sentence(self):
        source = random.Random(60)
        for _ in range(60):
            letters = source.choice([AB, ABC, ABCD, TWELVE])
            given = random_told(source, letters, source.randint(1, 16))
            closing = close(letters, given[:-1])
            rows, form = closing.rows, closing.form()
            other = random_told(source, letters, 1)[0]
            for sentence in (given[-1], other, given[-1]):
                after, wanted = closing.followed(sentence), close(letters, given[:-1] + [sentence])
                self.assertEqual((after.told, after.rows, after.lengths, after.live, after.form()),
                                 (wanted.told, wanted.rows, wanted.lengths, wanted.live, wanted.form()))
            self.assertEqual((closing.rows, closing.form(), closing.told), (rows, form, tuple(given[:-1])))
        full = close(AB, [Sentence(AB, "idle", "a")] * 60)
        self.fails(TooMany, lambda: full.followed(given[0]), "sentences", 61, 60)

    def test_equal_calls_give_equal_rows(self):
        source = random.Random(7)
        for _ in range(20):
            given = random_told(source, ABCD, 6)
            self.assertEqual(close(ABCD, given).rows, close(ABCD, tuple(given)).rows)


if __name__ == "__main__":
    unittest.main()
