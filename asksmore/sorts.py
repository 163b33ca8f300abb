"""Sorts: sets of words, each given by a small machine in its one form."""

from asksmore.counting import (MOST_RANKED, first_difference, growth_of, is_endless, number_squared, number_walked,
                               rank_in, word_at)
from asksmore.errors import (BadEnd, BadLetter, BadMenu, BadNumber, BadPlace, BadRow, BadState, TooLong, TooMany,
                             TwiceTold)
from asksmore.histories import require_beginning
from asksmore.letters import require_same
from asksmore.plain import is_index, is_list_of, is_whole
from asksmore.tables import (Table, first_word, in_succession, is_at_end, leap, one_form, over_and_over, paired,
                             seen_from, stepped_on, turned_round)
from asksmore.tops import NOTHING, Tops

MOST_TOLD = 12
MOST_STATES = 40
MOST_BEHIND = 6
MOST_TIMES = 12
MOST_LETTERS = 39
MOST_WALKED = 2000
MOST_SQUARED = 12
MOST_NUMBER = 10 ** 30


def require_rows(letters, rows):
    """Refuse what is no list of rows, then a second row for a state and a letter."""
    for index, row in enumerate(rows):
        if not is_list_of(row, 3) or row[1] not in letters:
            raise BadRow(index)
        if not is_index(row[0], MOST_TOLD) or not is_index(row[2], MOST_TOLD):
            raise BadRow(index)
    seen = {}
    for index, (state, letter, _) in enumerate(rows):
        if (state, letter) in seen:
            raise TwiceTold(index)
        seen[state, letter] = True


def told_table(letters, rows, ends):
    """The one form of a machine that is told by its rows and ends."""
    require_rows(letters, rows)
    for index, state in enumerate(ends):
        if not is_index(state, MOST_TOLD):
            raise BadEnd(index)
    targets = dict([((state, letter), target) for state, letter, target in rows])
    return table_of(letters, targets, ends, MOST_TOLD)


def table_of(letters, targets, ends, most):
    """The one form of a machine of at most so many states, from the next states by states and letters."""
    moves = [[targets.get((state, letter)) for letter in letters] for state in range(most)]
    return one_form(moves, [state in ends for state in range(most)])


def require_letters(letters, word):
    """Refuse a word that holds something else than these letters."""
    for index, letter in enumerate(word):
        if letter not in letters:
            raise BadLetter(index)


def require_number(value, least):
    """Refuse what is not an integer from a least one to 10 ** 30."""
    if not is_whole(value) or not least <= value <= MOST_NUMBER:
        raise BadNumber(value)


def ranks(letters, word):
    """The ranks of the letters of a word."""
    return [letters.rank(letter) for letter in word]


def spelled(letters, word):
    """The word of some ranks."""
    return tuple([letters.words[rank] for rank in word])


def is_word(letters, value):
    """Whether a value is a tuple of letters."""
    return isinstance(value, tuple) and all([letter in letters for letter in value])


def fitted(letters, table):
    """The sort of a table, unless it has too many states."""
    many = len(table.moves)
    if many > MOST_STATES:
        raise TooMany("states", many, MOST_STATES)
    return Sort(letters, table, ())


def menu_ranks(letters, menus):
    """For each menu the ranks of its letters."""
    for index, menu in enumerate(menus):
        if not isinstance(menu, (list, tuple)) or not is_word(letters, tuple(menu)):
            raise BadMenu(index)
    return [ranks(letters, menu) for menu in menus]


class Sort:
    """A set of words."""

    def __init__(self, letters, rows, ends):
        table = rows if isinstance(rows, Table) else told_table(letters, rows, ends)
        self.letters = letters
        self.table = table
        self.rows = tuple([(state, letter, target) for state, row in enumerate(table.moves)
                           for letter, target in zip(letters, row) if target is not None])
        self.ends = tuple([state for state, mark in enumerate(table.marks) if mark])

    @classmethod
    def every(cls, letters):
        """All words."""
        return cls(letters, [(0, letter, 0) for letter in letters], [0])

    @classmethod
    def nothing(cls, letters):
        """No word."""
        return cls(letters, (), ())

    @classmethod
    def only(cls, letters, word):
        """One word alone."""
        if len(word) > MOST_LETTERS:
            raise TooLong(len(word))
        require_letters(letters, word)
        return cls.menus(letters, [[letter] for letter in word])

    @classmethod
    def menus(cls, letters, menus):
        """The words with one letter of each menu, in turn."""
        many = len(menus)
        if many > MOST_LETTERS:
            raise TooLong(many)
        chosen = menu_ranks(letters, menus)
        moves = [[at + 1 if rank in menu else None for rank in range(len(letters))] for at, menu in enumerate(chosen)]
        moves.append([None for _ in letters])
        return cls(letters, one_form(moves, [at == many for at in range(many + 1)]), ())

    @classmethod
    def ending(cls, letters, letter):
        """The words whose last letter is this one."""
        if letter not in letters:
            raise BadLetter(0)
        rows = [(state, other, 1 if other == letter else 0) for state in (0, 1) for other in letters]
        return cls(letters, rows, [1])

    @property
    def states(self):
        """The number of states of the one form."""
        return len(self.table.moves)

    def step(self, state, letter):
        """The state to which a row leads, or None."""
        self.require_state(state)
        return self.table.moves[state][self.letters.rank(letter)]

    def is_end(self, state):
        """Whether a state is an end."""
        self.require_state(state)
        return self.table.marks[state]

    def require_state(self, state):
        """Refuse what is not a state of the one form."""
        if not is_index(state, len(self.table.moves)):
            raise BadState(0)

    def repeated(self):
        """Any number of words of the sort, one after the other."""
        self.require_few()
        return fitted(self.letters, over_and_over(self.table))

    def require_few(self):
        """Refuse a sort with more states than one that stands behind another one may have."""
        many = len(self.table.moves)
        if many > MOST_BEHIND:
            raise TooMany("states", many, MOST_BEHIND)

    def takes(self, history):
        """Whether the word of a history belongs to the sort."""
        require_same(self.letters, history.letters)
        state = 0
        for letter, count in history.runs:
            state = leap(self.table.moves, state, self.letters.rank(letter), count)
        return is_at_end(self.table, state)

    def after(self, word):
        """The sort of what may follow a word."""
        require_letters(self.letters, word)
        state = stepped_on(self.table, ranks(self.letters, word))
        return Sort.nothing(self.letters) if state is None else Sort(self.letters, seen_from(self.table, state), ())

    def least(self):
        """The first word, or None."""
        word = first_word(self.table)
        return None if word is None else spelled(self.letters, word)

    def apart(self, other):
        """The first word that belongs to exactly one of two sorts, or None."""
        require_same(self.letters, other.letters)
        word = first_word(paired(self.table, other.table, "one"))
        return None if word is None else spelled(self.letters, word)

    def growth(self):
        """How the numbers of words grow with the size."""
        return growth_of(self.table)

    def number_of(self, n, *, modulo=None):
        """How many words have exactly n letters."""
        require_number(n, 0)
        if modulo is not None:
            require_number(modulo, 1)
        if n <= MOST_WALKED:
            return number_walked(self.table, n, modulo)
        if len(self.table.moves) > MOST_SQUARED:
            raise TooMany("states", len(self.table.moves), MOST_SQUARED)
        if modulo is None and growth_of(self.table)[0] == "wild":
            raise TooLong(n)
        return number_squared(self.table, n, modulo)

    def counts_apart(self, other):
        """The least size of which two sorts have different numbers of words, or None."""
        require_same(self.letters, other.letters)
        return first_difference(self.table, other.table)

    def rank_of(self, word):
        """How many words come before a word; None if it does not belong."""
        if not is_word(self.letters, word):
            return None
        if len(word) > MOST_RANKED:
            raise TooLong(len(word))
        return rank_in(self.table, ranks(self.letters, word)) if word in self else None

    def __getitem__(self, at):
        if not is_whole(at) or at < 0:
            raise BadPlace(at)
        word = word_at(self.table, at)
        if word is not None:
            return spelled(self.letters, word)
        if is_endless(self.table):
            raise TooLong(at)
        raise BadPlace(at)

    def __iter__(self):
        raise TypeError("a sort is not iterated over")

    def __contains__(self, x):
        if not is_word(self.letters, x):
            return False
        return is_at_end(self.table, stepped_on(self.table, ranks(self.letters, x)))

    def __eq__(self, other):
        return (isinstance(other, Sort) and self.letters == other.letters and self.rows == other.rows
                and self.ends == other.ends)

    def __or__(self, other):
        require_same(self.letters, other.letters)
        return fitted(self.letters, paired(self.table, other.table, "either"))

    def __and__(self, other):
        require_same(self.letters, other.letters)
        return fitted(self.letters, paired(self.table, other.table, "both"))

    def __sub__(self, other):
        require_same(self.letters, other.letters)
        return fitted(self.letters, paired(self.table, other.table, "first"))

    def __invert__(self):
        return fitted(self.letters, turned_round(self.table))

    def __add__(self, other):
        require_same(self.letters, other.letters)
        other.require_few()
        return fitted(self.letters, in_succession(self.table, other.table))

    def __mul__(self, other):
        if not is_whole(other) or not 0 <= other <= MOST_TIMES:
            raise BadNumber(other)
        if other == 0:
            return Sort.only(self.letters, ())
        result = self
        for _ in range(other - 1):
            result = result + self
        return result

    def __rmul__(self, other):
        return self * other


def struck_moves(tops, beginning):
    """The rows of next states, and the ends, of a machine whose states are the tops of struck words."""
    places = [NOTHING, *tops.live]
    moves = []
    for top in places:
        ahead = [rank for rank in tops.live if tops.behind(beginning, top, rank) == rank]
        moves.append([places.index(rank) if rank in ahead else None for rank in range(len(tops.letters))])
    return moves, [True for _ in places]


def struck_words(closing, beginning):
    """The sort of the words of struck forms of all histories from a beginning."""
    require_beginning(beginning)
    moves, marks = struck_moves(Tops(closing), beginning)
    return Sort(closing.letters, one_form(moves, marks), ())
