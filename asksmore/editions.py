"""Specifications compared: what follows from one, what another one says besides, and what can be left out."""

from asksmore.allowed import counts_at
from asksmore.asked import After
from asksmore.errors import Impossible, TooMany, Unfair
from asksmore.failing import allowed_by_top, is_right_top
from asksmore.halves import menu
from asksmore.histories import History, require_beginning
from asksmore.letters import BEGINNINGS, require_same
from asksmore.machines import MOST_STATES, Machine
from asksmore.sentences import Sentence
from asksmore.sorts import Sort, struck_words
from asksmore.strikes import follows, struck
from asksmore.widened import Widened

MOST_NAMES = 8
# The first answers in the order of strings: one more than a sentence has, so that one of them is not among its words.
FIRST_ANSWERS = ("a", "a0", "a00", "a000", "a0000", "a00000", "a000000")


def answers_of(spec):
    """The answers that a specification allows at each top."""
    return allowed_by_top(spec.closing, spec.limits)


def is_held(spec, by_top, item):
    """Whether a sentence follows from a specification, where these answers are allowed at each top."""
    if () in list(by_top.values()):
        return True
    if isinstance(item, Sentence):
        return follows(spec.closing, item)
    return all([is_right_top(item, by_top[top]) for top in by_top if counts_at(spec.closing, item, top)])


def holds(spec, item):
    """Whether a sentence follows from a specification."""
    require_same(spec.letters, item.letters)
    return is_held(spec, answers_of(spec), item)


def first_loose(one, other):
    """The first entry of a specification that does not follow from another one, or None."""
    require_same(one.letters, other.letters)
    by_top = answers_of(one)
    for name, item in other.entries:
        if not is_held(one, by_top, item):
            return name, item
    return None


def within(one, other):
    """Whether every answerer that keeps one specification keeps the other one."""
    return first_loose(one, other) is None


def parting(one, other):
    """Where a specification leaves open what the other one says first: a name, a history and an answer; or None."""
    loose = first_loose(one, other)
    if loose is None:
        return None
    name, item = loose
    if isinstance(item, Sentence):
        return name, History(item.letters, item.left.beginning), None
    history = first_beyond(one, item)
    answers = one.allowed(struck(one.closing, history).last)
    beyond = [answer for answer in (FIRST_ANSWERS if answers is None else answers) if answer not in item.answers]
    return name, history, beyond[0]


def tests_of(limit):
    """Tests that ask together, from one beginning each, just what a limit says."""
    if limit.kind == "fresh":
        return [After("new", Sort.only(limit.letters, ()), limit.answers)]
    spoken = Sort.ending(limit.letters, limit.letter) if limit.kind == "behind" else Sort.every(limit.letters)
    return [After(beginning, spoken, limit.answers) for beginning in BEGINNINGS]


def first_beyond(spec, limit):
    """The first history of which a limit speaks and after which a specification allows another answer."""
    verdicts = [spec.decide(test) for test in tests_of(limit)]
    found = [History.spelled(limit.letters, verdict.test.beginning, verdict.word())
             for verdict in verdicts if not verdict.fair]
    # Of two histories of one size the one from new is found first.
    return min(found, key=lambda history: history.size)


def form(spec):
    """The closed form of a specification and the answers that it allows; None if nothing keeps it."""
    if not spec.is_possible():
        return None
    by_top = answers_of(spec)
    return spec.closing.form(), tuple([(top, by_top[top]) for top in by_top])


def common(one, other):
    """All state sentences that follow from both specifications."""
    require_same(one.letters, other.letters)
    by_top, by_other = answers_of(one), answers_of(other)
    return [sentence for sentence in menu(one.letters)
            if is_held(one, by_top, sentence) and is_held(other, by_other, sentence)]


def without(names, name):
    """All of these names (or indexes) but one."""
    return [other for other in names if other != name]


def needless(spec):
    """The names whose sentences follow from all others."""
    return tuple([name for name in spec.names if holds(spec.selected(without(spec.names, name)), spec[name])])


def require_enough(spec, is_enough):
    """Refuse a specification of which even all sentences are not enough."""
    if not is_enough(spec.copy()):
        raise Unfair()


def irreducible(spec, is_enough):
    """The names that are left when each one, from the last to the first, is dropped that is not needed."""
    require_enough(spec, is_enough)
    kept = spec.names
    for name in spec.names[::-1]:
        fewer = without(kept, name)
        if is_enough(spec.selected(fewer)):
            kept = fewer
    return tuple(kept)


def index_sets(many):
    """All sets of indexes below a number, by size, then by the indexes."""
    found = [()]
    for index in range(many):
        found = found + [(*chosen, index) for chosen in found]
    return sorted(found, key=lambda chosen: (len(chosen), chosen))


def asked_sets(spec, is_enough):
    """For each set of indexes of names whether these sentences are enough."""
    names = spec.names
    if len(names) > MOST_NAMES:
        raise TooMany("sentences", len(names), MOST_NAMES)
    require_enough(spec, is_enough)
    return {chosen: is_enough(spec.selected([names[index] for index in chosen])) for chosen in index_sets(len(names))}


def named_sets(spec, found):
    """Sets of names for sets of indexes."""
    return [tuple([spec.names[index] for index in chosen]) for chosen in found]


def least_sets(spec, is_enough):
    """All sets of names that are enough, while none is with one name fewer."""
    enough = asked_sets(spec, is_enough)
    return named_sets(spec, [chosen for chosen in enough if enough[chosen] and not any(
        [enough[tuple(without(chosen, index))] for index in chosen])])


def cuts(spec, is_enough):
    """All sets of names without which the others are not enough, while they are with any one of them put back."""
    enough = asked_sets(spec, is_enough)
    found = []
    for chosen in enough:
        left = [index for index in range(len(spec)) if index not in chosen]
        fuller = [tuple(sorted([*left, index])) for index in chosen]
        if not enough[tuple(left)] and all([enough[more] for more in fuller]):
            found.append(chosen)
    return named_sets(spec, found)


def first_open(spec, beginning):
    """The first history from a beginning after which two or more answers are allowed, or None."""
    require_beginning(beginning)
    if not spec.is_possible():
        raise Impossible()
    wide = Widened(spec.closing, Sort.every(spec.letters))
    by_top = answers_of(spec)
    tops = [top for top in by_top if top == beginning or top in spec.letters]
    open_tops = [top for top in tops if by_top[top] is None or len(by_top[top]) > 1]
    words = [wide.reached(beginning, 0, top) for top in open_tops]
    found = [(len(word), [spec.letters.rank(letter) for letter in word], word) for word in words if word is not None]
    return History.spelled(spec.letters, beginning, min(found)[2]) if found else None


def struck_machine(spec):
    """The machine whose states are the struck forms; None if there are infinitely many."""
    sorts = [struck_words(spec.closing, beginning) for beginning in BEGINNINGS]
    growths = [sort.growth() for sort in sorts]
    if any([kind != "finite" for kind, _ in growths]):
        return None
    if not spec.is_possible():
        raise Impossible()
    many = sum([count for _, count in growths])
    if many > MOST_STATES:
        raise TooMany("states", many, MOST_STATES)
    forms = [History.spelled(spec.letters, beginning, sort[place])
             for beginning, sort, growth in zip(BEGINNINGS, sorts, growths) for place in range(growth[1])]
    return machine_of(spec, forms, growths[0][1])


def machine_of(spec, forms, found):
    """The machine of all struck forms, where the state of a found object is told."""
    place = {(history.beginning, history.runs): at for at, history in enumerate(forms)}
    rows = []
    for history in forms:
        behind = [struck(spec.closing, history + [(letter, 1)]) for letter in spec.letters]
        rows.append([place[after.beginning, after.runs] for after in behind])
    answers = [(spec.allowed(history.last) or FIRST_ANSWERS)[0] for history in forms]
    return Machine(spec.letters, rows, answers, new=0, found=found)
