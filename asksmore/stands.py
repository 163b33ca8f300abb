"""Two words compared behind every struck history, which is read from its last letter to its first one.

What has been read is told by one of four kinds of tuples. Words in them are struck, as from found.
- ("open", one, other): all letters that were read are gone; so much is left of the two words.
- ("level", side, tail, word): on a side (0 or 1) a letter has stayed, and all letters read from then on stay, too;
  the tail is what stands there behind the letters still to be read. On the other side all letters are gone, and the
  tail stands at the end of what is left of the word: only so can the two forms become equal.
- ("apart", side, tail, word): likewise, but the forms stay different; only the last letter of the tail is kept.
- ("done", is_equal, top, top): letters have stayed on both sides, so nothing changes any more.
"""

from asksmore.asked import told_word
from asksmore.errors import BadStand
from asksmore.histories import History, require_beginning
from asksmore.plain import is_index
from asksmore.strikes import struck


def met(closing, letter, word):
    """A live letter ahead of a struck word: whether it stays there, and what is left of the word."""
    for at, other in enumerate(word):
        kind = closing.pair(letter, other)
        if kind is None:
            return True, word[at:]
        if kind != "kept":
            return False, word[at + 1:] if kind == "undone" else word[at:]
    return True, ()


def last_of(first, word):
    """The last letter of a word, or what stands ahead of it if it has no letter."""
    return word[-1] if word else first


def in_order(side, one, other):
    """Two values in the order of the sides, where the first one is that of this side."""
    return (one, other) if side == 0 else (other, one)


def followed(side, tail, word):
    """What is told when a letter has stayed on one side only."""
    if word[-len(tail):] == tail:
        return "level", side, tail, word
    return "apart", side, tail[-1:], word


def read_open(closing, told, letter):
    """What is told after one more letter when all letters so far are gone."""
    stays, words = [], []
    for word in told[1:]:
        is_there, left = met(closing, letter, word)
        stays.append(is_there)
        words.append((letter, *left) if is_there else left)
    if stays == [True, True]:
        return "done", words[0] == words[1], words[0][-1], words[1][-1]
    if stays == [False, False]:
        return "open", words[0], words[1]
    return followed(0, words[0], words[1]) if stays[0] else followed(1, words[1], words[0])


def read_on(closing, told, letter):
    """What is told after one more letter, towards the beginning."""
    if told[0] == "open":
        return read_open(closing, told, letter)
    if told[0] == "done":
        return told
    kind, side, tail, word = told
    stays, left = met(closing, letter, word)
    if not stays:
        return followed(side, (letter, *tail), left) if kind == "level" else (kind, side, tail, left)
    is_equal = kind == "level" and tail == left
    tops = in_order(side, tail[-1], last_of(letter, left))
    return "done", is_equal, tops[0], tops[1]


def ended(closing, told, beginning):
    """Whether the two forms are equal, and their tops, when the struck history has been read whole."""
    if told[0] == "done":
        return told[1:]
    if told[0] == "open":
        one, other = [begun(closing, beginning, word) for word in told[1:]]
        return one == other, last_of(beginning, one), last_of(beginning, other)
    kind, side, tail, word = told
    form = begun(closing, beginning, word)
    tops = in_order(side, tail[-1], last_of(beginning, form))
    return kind == "level" and tail == form, tops[0], tops[1]


def begun(closing, beginning, word):
    """A struck word when it stands at the beginning."""
    at = 0
    while beginning == "new" and at < len(word) and closing.is_still(word[at]):
        at += 1
    return word[at:]


class Stands:
    """A table that compares two words behind every struck history."""

    def __init__(self, closing, one, other):
        self.closing = closing
        self.one = told_word(closing.letters, 0, one)
        self.other = told_word(closing.letters, 1, other)
        forms = [struck(closing, History.spelled(closing.letters, "found", word)) for word in (self.one, self.other)]
        self.told = [("open", forms[0].word(), forms[1].word())]
        self.rows = []
        live = closing.live
        place = {self.told[0]: 0}
        while len(self.rows) < len(self.told):
            row = {}
            for letter in live:
                told = read_on(closing, self.told[len(self.rows)], letter)
                if told not in place:
                    place[told] = len(self.told)
                    self.told.append(told)
                row[letter] = place[told]
            self.rows.append(row)
        self.size = len(self.rows)

    def require_stand(self, stand):
        """Refuse what is not a stand."""
        if not is_index(stand, self.size):
            raise BadStand(stand)

    def step(self, stand, letter):
        """The stand after one more letter, towards the beginning."""
        self.require_stand(stand)
        self.closing.require_live(letter)
        return self.rows[stand][letter]

    def end(self, stand, beginning):
        """Whether the two forms are equal, and their tops, where the struck history has been read whole."""
        self.require_stand(stand)
        require_beginning(beginning)
        return ended(self.closing, self.told[stand], beginning)

    def walk(self, history):
        """Whether the two forms behind a history are equal, and their tops."""
        stand = 0
        # It is refused to strike a history over other letters, and to spell out a struck form of too many letters.
        for letter in struck(self.closing, history).word()[::-1]:
            stand = self.rows[stand][letter]
        return self.end(stand, history.beginning)
