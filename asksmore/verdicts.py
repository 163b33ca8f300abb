"""Verdicts: whether a test is fair, with a paper that shows it, or with an answerer that fails it."""

from asksmore.allowed import conflict, live_letters, require_limits
from asksmore.answerers import Answerer
from asksmore.arrows import Arrows, are_closed, read_arrows, told_arrows
from asksmore.asked import After, Same
from asksmore.errors import TooLong
from asksmore.failing import allowed_by_top, first_failing, is_right_end, is_right_top
from asksmore.histories import History
from asksmore.papers import GroundWalk, NodeWalk, TopWalk, read_part, walked_through
from asksmore.plain import is_list_of
from asksmore.stands import Stands
from asksmore.strikes import struck
from asksmore.tops import Tops
from asksmore.ways import size_of_way, word_of
from asksmore.widened import require_widenable

MOST_ANSWERED = 280
# More answers than a test has, so that one of them is not an answer of the test.
ANY_ANSWERS = ("a", "b", "c", "d", "e", "f", "g")


def require_test(closing, limits, test):
    """Refuse wrong limits, then a test over other letters or with too large a sort."""
    require_limits(closing, limits)
    require_widenable(closing, test.domain)


def decide(closing, limits, test):
    """The verdict about a test."""
    require_test(closing, limits, test)
    bars = conflict(closing, limits)
    way = None if bars is not None else first_failing(closing, allowed_by_top(closing, limits), test)
    return Verdict(closing, limits, test, bars, way)


class Verdict:
    """Whether a test is fair, and what shows it."""

    def __init__(self, closing, limits, test, bars, way):
        self.closing = closing
        self.limits = tuple(limits)
        self.test = test
        self.fair = way is None
        self.conflict = bars
        self.size = size_of_way(way)
        self.failing = way

    def word(self):
        """The first word of a history of the sort at which the test can fail; None if the test is fair."""
        return word_of(self.closing.letters, self.failing)

    def answerer(self):
        """An answerer that keeps the specification and fails the test at that history; None if the test is fair."""
        if self.fair:
            return None
        if self.size > MOST_ANSWERED:
            raise TooLong(self.size)
        by_top = allowed_by_top(self.closing, self.limits)
        choices = {top: ANY_ANSWERS if by_top[top] is None else by_top[top] for top in by_top}
        tops = {top: choices[top][0] for top in choices}
        if isinstance(self.test, After):
            form = self.form_behind(())
            wrong = [answer for answer in choices[form.last] if answer not in self.test.answers]
            return Answerer(self.closing, {**tops, form.last: wrong[0]})
        if not isinstance(self.test, Same):
            return Answerer(self.closing, tops)
        one, other = self.form_behind(self.test.one), self.form_behind(self.test.other)
        pairs = [(first, second) for first in choices[one.last] for second in choices[other.last] if first != second]
        # Both forms may have one top, so the one form has its answer by itself.
        return Answerer(self.closing, {**tops, other.last: pairs[0][1]}, [(one, pairs[0][0])])

    def form_behind(self, word):
        """The struck form of the history at which the test fails and a word behind it."""
        history = History.spelled(self.closing.letters, self.test.beginning, [*self.word(), *word])
        return struck(self.closing, history)

    def paper(self):
        """What shows that the test is fair; None if it is not, or if something is barred."""
        if not self.fair or self.conflict is not None:
            return None
        arrows = told_arrows(self.closing.letters, Arrows(self.closing, self.test.domain).ways)
        parts = [walked_through(walk) for walk in walks_of(self.closing, self.test, arrows)]
        return (arrows, *parts)


def walks_of(closing, test, arrows):
    """The walks along the arrows of a paper, one for each further part of it."""
    live = live_letters(closing)
    if isinstance(test, After):
        return [TopWalk(closing, test, arrows, live)]
    stands = Stands(closing, test.one, test.other)
    return [GroundWalk(closing, test, arrows, live), NodeWalk(closing, test, arrows, live, stands)]


def is_paper(closing, limits, test, paper):
    """Whether a value shows that a test is fair."""
    require_test(closing, limits, test)
    if not is_list_of(paper, 2 if isinstance(test, After) else 3):
        return False
    tops = Tops(closing)
    codes = read_arrows(tops, test.domain.states, paper[0])
    if codes is None or not are_closed(tops, test.domain.table, codes):
        return False
    walks = walks_of(closing, test, told_arrows(closing.letters, codes))
    parts = [read_part(walk, value) for walk, value in zip(walks, paper[1:])]
    if None in parts:
        return False
    by_top = allowed_by_top(closing, limits)
    if isinstance(test, After):
        return are_right_tops(test, by_top, parts[0])
    return are_right_nodes(walks[1], test, by_top, parts[0], parts[1])


def are_right_tops(test, by_top, tops):
    """Whether a test cannot fail at any of these tops that is at an end of the sort."""
    return all([is_right_top(test, by_top[top]) for state, top in tops if test.domain.is_end(state)])


def are_right_nodes(walk, test, by_top, ground, nodes):
    """Whether a test cannot fail where one of these nodes begins at a history that leaves no letter."""
    for state, top, stand in nodes:
        is_start = top is None or test.beginning == "found" or not walk.stands.closing.is_still(top)
        if state in ground and is_start:
            if not is_right_end(test, by_top, walk.stands.end(stand, test.beginning)):
                return False
    return True
