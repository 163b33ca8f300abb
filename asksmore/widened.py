"""Sorts with struck arrows: what the words between their states strike to."""

from asksmore.arrows import Arrows, are_closed, forms_reached, read_arrows, struck_table, told_arrows, tops_reached
from asksmore.errors import BadState, BadTop, TooMany
from asksmore.histories import require_beginning
from asksmore.letters import BEGINNINGS, require_same
from asksmore.plain import is_index
from asksmore.sorts import fitted
from asksmore.tops import NOTHING, Tops, coded
from asksmore.ways import size_of_way, word_of

MOST_WIDENED = 12
MOST_STRUCK = 6


def require_states(sort, most):
    """Refuse a sort with more states than so many."""
    if sort.states > most:
        raise TooMany("states", sort.states, most)


def require_widenable(closing, sort):
    """Refuse a sort over other letters or with too many states."""
    require_same(closing.letters, sort.letters)
    require_states(sort, MOST_WIDENED)


class Widened:
    """A sort together with the arrows of its words."""

    def __init__(self, closing, domain):
        require_widenable(closing, domain)
        self.closing = closing
        self.domain = domain
        self.found = Arrows(closing, domain)
        self.found_tops = {beginning: tops_reached(self.found, beginning) for beginning in BEGINNINGS}
        self.arrows = told_arrows(closing.letters, self.found.ways)

    def way(self, start, x, end):
        """The first way between two states that strikes to a letter or nothing; None if there is none."""
        self.require_state(start, 0)
        if x is not None:
            self.closing.require_live(x)
        self.require_state(end, 1)
        return self.found.ways.get((start, coded(self.closing.letters, x), end))

    def require_state(self, state, index):
        """Refuse what is not a state of the sort."""
        if not is_index(state, self.domain.states):
            raise BadState(index)

    def least(self, start, x, end):
        """The least size of a word between two states that strikes to a letter or nothing, or None."""
        return size_of_way(self.way(start, x, end))

    def word(self, start, x, end):
        """The first such word, or None."""
        return word_of(self.closing.letters, self.way(start, x, end))

    def way_to(self, beginning, state, top):
        """The first way to a state and a top; None if there is none."""
        require_beginning(beginning)
        self.require_state(state, 0)
        letters = self.closing.letters
        live = [letters.words[rank] for rank in self.found.tops.live]
        if top not in [beginning, *live]:
            raise BadTop(top)
        code = NOTHING if top == beginning else letters.rank(top)
        return self.found_tops[beginning].get((state, code))

    def reach(self, beginning, state, top):
        """The least size of a word to a state whose history has a top, or None."""
        return size_of_way(self.way_to(beginning, state, top))

    def reached(self, beginning, state, top):
        """The first such word, or None."""
        return word_of(self.closing.letters, self.way_to(beginning, state, top))

    def into(self, beginning, forms):
        """The first word of the sort whose struck form is of another sort, or None."""
        require_beginning(beginning)
        require_same(self.domain.letters, forms.letters)
        return word_of(self.closing.letters, forms_reached(self.found, beginning, forms.table))


def struck_sort(closing, sort, beginning):
    """The sort of the words of the struck forms of the histories from a beginning whose words are of a sort."""
    require_beginning(beginning)
    require_same(closing.letters, sort.letters)
    require_states(sort, MOST_STRUCK)
    return fitted(closing.letters, struck_table(Arrows(closing, sort), beginning))


def is_closed(closing, sort, arrows):
    """Whether a value has all arrows of a sort, with those that two of them make together."""
    require_widenable(closing, sort)
    tops = Tops(closing)
    told = read_arrows(tops, sort.states, arrows)
    return told is not None and are_closed(tops, sort.table, told)
