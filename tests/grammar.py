"""The rules of texts, told a second time: which words may come next, and whether a line may end there.

Each rule is a generator. It gives pairs (what is right, whether the line may end) and is sent the word that came.
"""

import re

STATE_KINDS = {"idle": 1, "still": 1, "kept": 2, "over": 2, "undone": 2, "alike": 2}
ANSWER = re.compile(r"[a-z][a-z0-9]{0,11}")
STATE = r"([0-9]|[12][0-9]|3[0-9])"


def is_word(text):
    """Whether a text is an answer or a name."""
    return ANSWER.fullmatch(text) is not None


def is_plain(text):
    """Whether a text is a plain word."""
    return is_word(text) and text not in ("new", "found")


def answers(end):
    """One or more answers, and the word that ends them, unless the line does."""
    known = set()
    word = yield is_word, False
    while word != end:
        known.add(word)
        word = yield (lambda text: text == end or is_word(text) and len(known | {text}) <= 6), end is None


def item(letters):
    """A sentence."""
    kind = yield (lambda text: text in STATE_KINDS or text in ("always", "fresh", "behind")), False
    if kind in STATE_KINDS:
        first = yield letters.__contains__, False
        if STATE_KINDS[kind] == 2:
            yield (lambda text: text in letters and not (kind == "alike" and text == first)), False
        return
    if kind == "behind":
        yield letters.__contains__, False
    yield from answers(None)


def sort(letters):
    """A sort."""
    rows = set()

    def parts(text):
        """The state and letter of a row, or None."""
        found = re.fullmatch(STATE + r":(~?[a-z0-9]+):" + STATE, text)
        return found.groups()[:2] if found and found.group(2) in letters else None

    word = None
    while word != "ends":
        word = yield (lambda text: text == "ends" or parts(text) is not None and parts(text) not in rows), False
        rows.add(parts(word))
    while True:
        yield (lambda text: re.fullmatch(STATE, text) is not None), True


def side(letters, end):
    """Up to six letters, and the word that ends them."""
    for many in range(7):
        word = yield (lambda text: text == end or many < 6 and text in letters), False
        if word == end:
            return


def test(letters):
    """A test."""
    kind = yield ("after", "same", "state").__contains__, False
    yield ("new", "found").__contains__, False
    if kind == "after":
        yield from answers(":")
    else:
        yield from side(letters, "/")
        yield from side(letters, ":")
    yield from sort(letters)


def entry(letters, names):
    """A name and a sentence."""
    name = yield (lambda text: is_word(text) and text not in names and len(names) < 60), False
    names.append(name)
    yield from item(letters)


def letters_line(letters):
    """The first line of a specification."""
    yield ("letters",).__contains__, False
    while True:
        word = yield (lambda text: is_plain(text.removeprefix("~")) and text not in letters and len(letters) < 12,
                      len(letters) > 0)
        letters.append(word)


def wrong_place(rule, line):
    """The place of the first wrong word of a line, or None."""
    words = line.split(" ")
    is_right, may_end = next(rule)
    for place, word in enumerate(words, 1):
        if not is_right(word):
            return place
        try:
            is_right, may_end = rule.send(word)
        except StopIteration:
            is_right, may_end = (lambda text: False), True
    return None if may_end else len(words) + 1


def wrong_in_spec(text):
    """The line and place of the first wrong word of a specification, or None."""
    letters, names = [], []
    for number, line in enumerate(text.split("\n"), 1):
        place = wrong_place(letters_line(letters) if number == 1 else entry(letters, names), line)
        if place is not None:
            return number, place
    return None


def book_line(deeds, asks, names):
    """A line of a book."""
    def may_begin(text):
        """Whether a word may begin the line."""
        if text == "deed":
            return not asks
        if text == "ask":
            return bool(deeds) and not any(names.values())
        return text in asks

    first = yield may_begin, False
    if first in ("deed", "ask"):
        pairs, most, barred = (deeds, 6, ()) if first == "deed" else (asks, 8, ("deed", "ask"))
        word = yield (lambda text: is_plain(text) and text not in pairs and text not in barred
                      and len(pairs) < most), False
        kind = yield ("plain", "named").__contains__, False
        pairs[word] = kind == "named"
        return
    letters = []
    for word, is_named in deeds.items():
        letters += [word, "~" + word] if is_named and asks[first] else [word]
    yield from entry(letters, names.setdefault(first, []))


def wrong_in_book(text):
    """The line and place of the first wrong word of a book, or None."""
    deeds, asks, names = {}, {}, {}
    lines = text.split("\n")
    for number, line in enumerate(lines, 1):
        place = wrong_place(book_line(deeds, asks, names), line)
        if place is not None:
            return number, place
    return None if asks else (len(lines) + 1, 1)
