"""Texts: sentences, sorts, tests, specifications and books as lines of words."""

from asksmore.asked import MOST_WORD, After, Same, State
from asksmore.books import MOST_ASKS, MOST_DEEDS, NO_ASKS, Book, is_new_word, letters_seen
from asksmore.closing import MOST_SENTENCES
from asksmore.errors import BadText
from asksmore.letters import BEGINNINGS, MOST_LETTERS, Letters, is_letter
from asksmore.plain import is_short_word
from asksmore.reading import LineReader
from asksmore.sentences import KINDS, LIMIT_KINDS, LONE_KINDS, MOST_ANSWERS, Limit, Sentence, is_answer
from asksmore.sorts import MOST_STATES, Sort, table_of
from asksmore.specs import told_spec

DIGITS = "0123456789"


def take_item(words, letters):
    """Take the words of a sentence."""
    kind = words.take_one_of(KINDS + LIMIT_KINDS)
    if kind in LIMIT_KINDS:
        letter = words.take_one_of(letters) if kind == "behind" else None
        return Limit(letters, kind, take_answers(words, None), letter)
    first = words.take_one_of(letters)
    if kind in LONE_KINDS:
        return Sentence(letters, kind, first)
    second = words.take(lambda word: word in letters and (kind != "alike" or word != first))
    return Sentence(letters, kind, first, second)


def take_answers(words, end):
    """Take one or more answers, up to the end of the line or to a word that ends them."""
    found = [words.take(is_answer)]
    while words.ahead() not in (None, end):
        found.append(words.take(lambda word: is_answer(word) and is_one_more(word, found)))
    return found


def is_one_more(answer, answers):
    """Whether there are not too many different answers with one more."""
    return answer in answers or len(set(answers)) < MOST_ANSWERS


def is_state(word):
    """Whether a word is the number of a state, without leading zeros."""
    if not 1 <= len(word) <= 2 or not all([sign in DIGITS for sign in word]):
        return False
    return str(int(word)) == word and int(word) < MOST_STATES


def is_row(letters, word):
    """Whether a word is a row of a sort."""
    parts = word.split(":")
    return len(parts) == 3 and is_state(parts[0]) and parts[1] in letters and is_state(parts[2])


def row_of(word):
    """The state with the letter, and the next state, of a row."""
    state, letter, target = word.split(":")
    return (int(state), letter), int(target)


def take_sort(words, letters):
    """Take the words of a sort, up to the end of the line."""
    targets = {}
    while words.ahead() != "ends":
        row = words.take(lambda word: is_row(letters, word) and row_of(word)[0] not in targets)
        place, target = row_of(row)
        targets[place] = target
    words.take_one_of(["ends"])
    ends = []
    while words.ahead() is not None:
        ends.append(int(words.take(is_state)))
    return Sort(letters, table_of(letters, targets, ends, MOST_STATES), ())


def take_word(words, letters, end):
    """Take the letters of a word of a test, and what ends them."""
    found = []
    while words.ahead() != end:
        found.append(words.take(lambda word: word in letters and len(found) < MOST_WORD))
    words.take_one_of([end])
    return found


def take_test(words, letters):
    """Take the words of a test, up to the end of the line."""
    kind = words.take_one_of(["after", "same", "state"])
    beginning = words.take_one_of(BEGINNINGS)
    if kind == "after":
        answers = take_answers(words, ":")
        words.take_one_of([":"])
        return After(beginning, take_sort(words, letters), answers)
    one = take_word(words, letters, "/")
    other = take_word(words, letters, ":")
    sort = take_sort(words, letters)
    return Same(beginning, sort, one, other) if kind == "same" else State(beginning, sort, one, other)


def take_entry(words, letters, entries):
    """Take a name that none of the entries has, and an item, up to the end of the line."""
    known = [name for name, _ in entries]
    name = words.take(lambda word: is_short_word(word) and word not in known and len(known) < MOST_SENTENCES)
    item = take_item(words, letters)
    words.finish()
    return name, item


def read_item(letters, line):
    """The sentence of a line."""
    words = LineReader(line, 1)
    item = take_item(words, letters)
    words.finish()
    return item


def write_sort(sort):
    """The line of a sort."""
    rows = [f"{state}:{letter}:{target}" for state, letter, target in sort.rows]
    return " ".join([*rows, "ends", *[str(state) for state in sort.ends]])


def read_sort(letters, line):
    """The sort of a line."""
    return take_sort(LineReader(line, 1), letters)


def write_test(test):
    """The line of a test."""
    if isinstance(test, After):
        head = ["after", test.beginning, *test.answers]
    else:
        head = ["same" if isinstance(test, Same) else "state", test.beginning, *test.one, "/", *test.other]
    return " ".join([*head, ":", write_sort(test.domain)])


def read_test(letters, line):
    """The test of a line."""
    return take_test(LineReader(line, 1), letters)


def write_spec(spec):
    """The text of a specification."""
    lines = [f"{name} {str(item)}" for name, item in spec.entries]
    return "\n".join([" ".join(["letters", *spec.letters]), *lines])


def read_spec(text):
    """The specification of a text."""
    lines = text.split("\n")
    letters = read_letters(LineReader(lines[0], 1))
    entries = []
    for number, line in enumerate(lines[1:], start=2):
        entries.append(take_entry(LineReader(line, number), letters, entries))
    return told_spec(letters, entries)


def read_letters(words):
    """The letters of the first line of a specification."""
    words.take_one_of(["letters"])
    found = []
    while not found or words.ahead() is not None:
        found.append(words.take(lambda word: is_letter(word) and word not in found and len(found) < MOST_LETTERS))
    return Letters(found)


def write_book(book):
    """The text of a book."""
    lines = []
    for kind, pairs in (("deed", book.deeds), ("ask", book.asks)):
        lines.extend([f"{kind} {word} {naming(is_named)}" for word, is_named in pairs])
    for ask, _ in book.asks:
        lines.extend([f"{ask} {name} {str(item)}" for name, item in book[ask].entries])
    return "\n".join(lines)


def naming(is_named):
    """The word for a named or a plain deed or ask."""
    return "named" if is_named else "plain"


class BookReader:
    """What was read of a book so far."""

    def __init__(self):
        self.deeds = []
        self.asks = []
        self.told = {}

    def is_due(self, word):
        """Whether a word may begin the next line."""
        if word == "deed":
            return not self.asks
        if word == "ask":
            return len(self.deeds) > 0 and not any([self.told[ask] for ask in self.told])
        return word in self.told

    def read_line(self, words):
        """Read a deed, an ask or an entry."""
        first = words.take(lambda word: self.is_due(word))
        if first == "deed":
            self.deeds.append(take_pair(words, self.deeds, MOST_DEEDS, ()))
        elif first == "ask":
            pair = take_pair(words, self.asks, MOST_ASKS, NO_ASKS)
            self.asks.append(pair)
            self.told[pair[0]] = []
        else:
            letters = letters_seen(self.deeds, dict(self.asks)[first])
            self.told[first].append(take_entry(words, letters, self.told[first]))


def take_pair(words, pairs, most, barred):
    """Take the word of a deed or an ask, which is none of these, and whether it is named."""
    taken = words.take(lambda word: is_new_word(word, pairs) and word not in barred and len(pairs) < most)
    kind = words.take_one_of(["plain", "named"])
    words.finish()
    return taken, kind == "named"


def read_book(text):
    """The book of a text."""
    lines = text.split("\n")
    found = BookReader()
    for number, line in enumerate(lines, start=1):
        found.read_line(LineReader(line, number))
    if not found.asks:
        raise BadText(len(lines) + 1, 1)
    book = Book(found.deeds, found.asks)
    for ask in found.told:
        book[ask].hold(found.told[ask])
    return book
