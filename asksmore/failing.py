"""Where a test that is not fair fails first."""

from asksmore.allowed import all_tops, allowed_at
from asksmore.arrows import Arrows, tops_reached
from asksmore.asked import After, State
from asksmore.stands import Stands
from asksmore.tables import one_form
from asksmore.tops import NOTHING
from asksmore.ways import NO_WAY, first_ways, in_turn


def allowed_by_top(closing, limits):
    """The answers allowed at each top."""
    return {top: allowed_at(closing, limits, top) for top in all_tops(closing)}


def is_right_top(test, answers):
    """Whether a test of the answers after histories cannot fail where these answers are allowed."""
    return answers is not None and all([answer in test.answers for answer in answers])


def is_right_end(test, by_top, end):
    """Whether a test that compares two words cannot fail where they lead to such forms and tops."""
    is_equal, one, other = end
    if is_equal or isinstance(test, State):
        return is_equal
    answers = by_top[one]
    return answers is not None and len(answers) == 1 and answers == by_top[other]


def first_failing(closing, by_top, test):
    """The first way of a history of the test at which some answerer fails; None if there is none."""
    arrows = Arrows(closing, test.domain)
    ways = tops_reached(arrows, test.beginning)
    if isinstance(test, After):
        return first_wrong_top(arrows, ways, by_top, test)
    return first_wrong_end(arrows, ways, wrong_table(closing, by_top, test), test.beginning)


def first_wrong_top(arrows, ways, by_top, test):
    """The first way to an end of the sort and a top at which the test can fail."""
    words = arrows.tops.letters.words
    wrong = [NOTHING if top == test.beginning else words.index(top) for top in by_top
             if top in (test.beginning, *words) and not is_right_top(test, by_top[top])]
    return min([ways[state, top] for state, top in ways if arrows.table.marks[state] and top in wrong], default=None)


def wrong_table(closing, by_top, test):
    """The one form of the machine for the struck words, read from their last letter, behind which the test can fail."""
    stands = Stands(closing, test.one, test.other)
    moves = [[row.get(letter) for letter in closing.letters] for row in stands.rows]
    ends = [stands.end(stand, test.beginning) for stand in range(stands.size)]
    return one_form(moves, [not is_right_end(test, by_top, end) for end in ends])


def first_wrong_end(arrows, ways, wrong, beginning):
    """The first way whose struck word, read from its last letter, is taken by a table.

    It is searched for from the ends of the sort to its start. A node is a state, the first letter of a struck word
    that leads from there to an end, and the state of the table behind this word.
    """
    def ahead(node, way):
        """The next ways, each with one more arrow ahead."""
        state, top, place = node
        found = []
        for x, start, more in arrows.inward[state]:
            if x == NOTHING:
                found.append((in_turn(more, way), (start, top, place)))
            elif (x, top) not in arrows.tops.met and wrong.moves[place][x] is not None:
                found.append((in_turn(more, way), (start, x, wrong.moves[place][x])))
        return found

    ends = [state for state, mark in enumerate(arrows.table.marks) if mark]
    found = first_ways({(state, NOTHING, 0): NO_WAY for state in ends}, ahead)
    stills = arrows.tops.stills if beginning == "new" else {}
    return min([in_turn(ways[state, NOTHING], found[state, top, place]) for state, top, place in found
                if (state, NOTHING) in ways and wrong.marks[place] and top not in stills], default=None)
