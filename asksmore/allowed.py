"""Allowed answers: what a specification leaves open at each top."""

from asksmore.errors import BadLetter, BadTold, BadTop, TooMany
from asksmore.histories import History
from asksmore.letters import BEGINNINGS
from asksmore.sentences import Limit

MOST_SENTENCES = 60


def live_letters(closing):
    """The live letters, in order."""
    return list(closing.live)


def all_tops(closing):
    """The tops, in order."""
    return [*BEGINNINGS, *live_letters(closing)]


def require_top(closing, top):
    """Refuse what is not a top."""
    if top not in all_tops(closing):
        raise BadTop(top)


def require_limits(closing, limits):
    """Refuse too many limits, and what is no limit over the letters of the closing."""
    if len(limits) > MOST_SENTENCES:
        raise TooMany("sentences", len(limits), MOST_SENTENCES)
    for index, limit in enumerate(limits):
        if not isinstance(limit, Limit) or limit.letters != closing.letters:
            raise BadTold(index)


def approach(closing, letter, top):
    """How histories with a top can end with a letter: how many letters of a struck one to take off, and the runs to
    put there ahead of the letter, both as few as possible; None if the letter does not reach the top."""
    least = closing.least(letter)
    if least is None:
        return 0, []
    if least == top:
        return 1, []
    if top == "new" and closing.is_still(least):
        return 0, []
    if top not in BEGINNINGS and closing.pair(top, least) == "kept":
        return 0, []
    undone = [other for other in live_letters(closing) if closing.pair(other, least) == "undone"]
    return (0, [(undone[0], 1)]) if undone else None


def ended_with(closing, form, letter):
    """A shortest history with this struck form whose last letter, as written, is this one; None if there is none."""
    way = approach(closing, letter, form.last)
    if way is None:
        return None
    taken, runs = way
    return form.cut(form.size - taken) + [*runs, (letter, 1)]


def shortest(closing, top):
    """The shortest struck history with a top."""
    if top in BEGINNINGS:
        return History(closing.letters, top)
    return History(closing.letters, "found", [(top, 1)])


def require_letter_and_top(closing, letter, top):
    """Refuse what is no letter, then what is no top."""
    if letter not in closing.letters:
        raise BadLetter(0)
    require_top(closing, top)


def reaches(closing, letter, top):
    """Whether some history that ends with a letter has a top."""
    require_letter_and_top(closing, letter, top)
    return approach(closing, letter, top) is not None


def witness(closing, letter, top):
    """A shortest history that ends with a letter and has the shortest struck form with a top, or None."""
    require_letter_and_top(closing, letter, top)
    return ended_with(closing, shortest(closing, top), letter)


def counts_at(closing, limit, top):
    """Whether a limit counts at a top."""
    if limit.kind == "behind":
        return approach(closing, limit.letter, top) is not None
    return limit.kind == "always" or top == "new"


def in_common(limits):
    """The answers that are in each of some limits, ascending; None if there is no limit."""
    if not limits:
        return None
    return tuple([answer for answer in limits[0].answers if all([answer in limit.answers for limit in limits])])


def allowed_at(closing, limits, top):
    """The answers allowed at a top, or None if any is allowed; the arguments are right."""
    return in_common([limit for limit in limits if counts_at(closing, limit, top)])


def allowed(closing, limits, top):
    """The answers allowed at a top, ascending, or None if any is allowed."""
    require_limits(closing, limits)
    require_top(closing, top)
    return allowed_at(closing, limits, top)


def barred(closing, limits):
    """The tops at which no answer is allowed, in order."""
    require_limits(closing, limits)
    # An answer that is in each limit is allowed at every top.
    if in_common(limits) != ():
        return ()
    return tuple([top for top in all_tops(closing) if allowed_at(closing, limits, top) == ()])


def members_at(closing, limits, top):
    """The indexes of limits without a common answer at a top, of which none can be dropped."""
    kept = [index for index, limit in enumerate(limits) if counts_at(closing, limit, top)]
    for index in kept[::-1]:
        others = [other for other in kept if other != index]
        if in_common([limits[other] for other in others]) == ():
            kept = others
    return kept


def conflict(closing, limits):
    """None if no top is barred, otherwise the first one with the limits that bar it, each with a history."""
    tops = barred(closing, limits)
    if not tops:
        return None
    members = []
    for index in members_at(closing, limits, tops[0]):
        form = shortest(closing, tops[0])
        if limits[index].kind == "behind":
            form = ended_with(closing, form, limits[index].letter)
        members.append((index, form))
    return tops[0], tuple(members)
