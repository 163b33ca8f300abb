"""What the tests compute on their own about tests, and some tests to compute it for."""

import itertools

from asksmore.allowed import allowed
from asksmore.asked import After, Same, State
from asksmore.closing import close
from asksmore.histories import History
from asksmore.letters import Letters
from asksmore.sentences import Limit, Sentence
from asksmore.strikes import struck
from tests.machines import AB, ABC, live_of, own_sizes, own_together, random_sort
from tests.own import random_told, sides
from tests.test_allowed import random_limits

ANSWERS = ["no", "yes", "a", "b1"]


def random_test(source, letters, states=3):
    """Some test, with a sort of few states."""
    beginning = source.choice(("new", "found"))
    sort = random_sort(source, letters, source.randrange(1, states + 1), source.choice((0, 0.2, 0.4)))
    kind = source.choice((After, Same, State))
    if kind is After:
        return After(beginning, sort, source.sample(ANSWERS, source.choice((1, 2, 3))))
    one = [source.choice(letters.words) for _ in range(source.randrange(4))]
    other = [source.choice(letters.words) for _ in range(source.randrange(4))]
    if source.random() < 0.4:
        other = one + [source.choice(letters.words)] * source.randrange(2)
    return kind(beginning, sort, one, other)


def random_case(source, most=5):
    """A closing, limits and a test over the same letters."""
    letters = source.choice((AB, ABC))
    closing = close(letters, random_told(source, letters, source.randrange(most)))
    return closing, random_limits(source, letters, source.randrange(4)), random_test(source, letters)


def fair_case(source):
    """A closing, limits and a test that often is fair, over the same letters."""
    letters = source.choice((AB, ABC))
    kinds = ("idle", "kept", "still", "still", "over", "undone", "alike")
    closing = close(letters, random_told(source, letters, source.randrange(4), kinds))
    beginning = source.choice(("new", "found"))
    sort = random_sort(source, letters, source.randrange(1, 4), source.choice((0, 0.2, 0.4)))
    answers = source.sample(ANSWERS, 2)
    limits = [Limit(letters, "always", answers)] + random_limits(source, letters, source.randrange(2))
    if source.random() < 0.5:
        return closing, limits, After(beginning, sort, answers + source.sample(ANSWERS, source.randrange(2)))
    one = [source.choice(letters.words) for _ in range(source.randrange(4))]
    other = struck(closing, History.spelled(letters, source.choice(("new", "found")), one)).word()
    if source.random() < 0.3:
        limits.append(Limit(letters, source.choice(("always", "fresh")), answers[:1]))
        other = other[:1]
    return closing, limits, source.choice((Same, State))(beginning, sort, one, other)


def forms_behind(closing, test, word):
    """The struck forms of a history of the test and either of its words."""
    history = History.spelled(closing.letters, test.beginning, word)
    return [struck(closing, history + [(x, 1) for x in more]) for more in (test.one, test.other)]


def is_right_end(test, answers, is_equal, one, other):
    """The condition of fairness for two forms with these tops."""
    if is_equal or isinstance(test, State):
        return is_equal
    return answers[one] is not None and len(answers[one]) == 1 and answers[one] == answers[other]


def is_right_at(closing, limits, test, word):
    """The condition of fairness at one history of the test, by striking."""
    answers = {top: allowed(closing, limits, top) for top in ["new", "found"] + live_of(closing)}
    if isinstance(test, After):
        found = answers[struck(closing, History.spelled(closing.letters, test.beginning, word)).last]
        return found is not None and set(found) <= set(test.answers)
    one, other = forms_behind(closing, test, word)
    return is_right_end(test, answers, one == other, one.last, other.last)


def fails(answerer, test, word):
    """Whether an answerer fails a test at a history."""
    history = History.spelled(test.letters, test.beginning, word)
    if isinstance(test, After):
        return answerer(history) not in test.answers
    one, other = [history + [(x, 1) for x in more] for more in (test.one, test.other)]
    if isinstance(test, Same):
        return answerer(one) != answerer(other)
    return answerer.state(one) != answerer.state(other)


def two_state_machines(letters):
    """All machines of two states without answers: maps by letters, the state of a new object, that of a found one."""
    for maps in itertools.product(itertools.product((0, 1), repeat=2), repeat=len(letters)):
        for new, found in itertools.product((0, 1), repeat=2):
            yield dict(zip(letters, maps)), new, found


def moved(maps, state, word):
    """The state behind a word."""
    for letter in word:
        state = maps[letter][state]
    return state


def reached_states(maps, new, found):
    """The states after all histories."""
    states = {new, found}
    for _ in range(2):
        states |= {maps[letter][state] for letter in maps for state in states}
    return states


def keeps_told(told, maps, new, found):
    """Whether a machine keeps state sentences."""
    for sentence in told:
        left, right = sides(sentence)
        for state in [new] if sentence.kind == "still" else reached_states(maps, new, found):
            if moved(maps, state, left) != moved(maps, state, right):
                return False
    return True


def keeps_limits(limits, maps, new, found, answers):
    """Whether a machine with answers keeps limits."""
    for limit in limits:
        states = reached_states(maps, new, found)
        if limit.kind == "fresh":
            states = {new}
        elif limit.kind == "behind":
            states = {maps[limit.letter][state] for state in states}
        if any(answers[state] not in limit.answers for state in states):
            return False
    return True


def passes(test, maps, start, answers):
    """Whether a machine passes a test, by all pairs of a state of the sort and one of the machine."""
    rows = {(state, by): to for state, by, to in test.domain.rows}
    pairs = [(0, start)]
    for place, state in pairs:
        for letter in test.letters:
            pair = rows.get((place, letter)), maps[letter][state]
            if pair[0] is not None and pair not in pairs:
                pairs.append(pair)
    for state in {state for place, state in pairs if place in test.domain.ends}:
        if isinstance(test, After):
            if answers[state] not in test.answers:
                return False
            continue
        one, other = moved(maps, state, test.one), moved(maps, state, test.other)
        if one != other and (isinstance(test, State) or answers[one] != answers[other]):
            return False
    return True


def is_own_closed(closing, sort, arrows):
    """The conditions for arrows, one by one."""
    due = {(p, None, p) for p in range(sort.states)} | {(p, closing.least(x), q) for p, x, q in sort.rows}
    for p, x, r in arrows:
        for other, y, q in arrows:
            if r == other and own_together(closing, x, y) is not False:
                due.add((p, own_together(closing, x, y), q))
    return due <= set(arrows)


def is_own_tops(closing, answers, test, arrows, tops):
    """The conditions for the tops of a paper, one by one."""
    tops = set(tops)
    due = {(0, test.beginning)}
    for p, top in tops:
        for start, y, q in arrows:
            if start == p and y is None:
                due.add((q, top))
            elif start == p and top == "new" and closing.is_still(y):
                due.add((q, "new"))
            elif start == p and (top in ("new", "found") or closing.pair(top, y) is None):
                due.add((q, y))
    right = all(answers[top] is not None and set(answers[top]) <= set(test.answers)
                for p, top in tops if p in test.domain.ends)
    return due <= tops and right


def is_own_ground(closing, test, arrows, ground):
    """The conditions for the ground of a paper, one by one."""
    due = {0}
    for p, y, q in arrows:
        if p in ground and (y is None or test.beginning == "new" and closing.is_still(y)):
            due.add(q)
    return due <= set(ground)


def is_own_nodes(closing, answers, test, stands, arrows, ground, nodes):
    """The conditions for the nodes of a paper, one by one."""
    nodes = set(nodes)
    due = {(q, None, 0) for q in test.domain.ends}
    for p, t, s in nodes:
        for r, z, end in arrows:
            if end == p and z is None:
                due.add((r, t, s))
            elif end == p and (t is None or closing.pair(z, t) is None):
                due.add((r, z, stands.step(s, z)))
    right = all(is_right_end(test, answers, *stands.end(s, test.beginning)) for p, t, s in nodes
                if p in ground and (t is None or test.beginning == "found" or not closing.is_still(t)))
    return due <= nodes and right


# In these sorts the first words from new to state 9 that leave a push of b on top have 281 and 301 letters.
TWO = Letters(["a", "b", "g", "h"])
ROWS_281 = [(0, "h", 1), (1, "a", 2), (1, "h", 3), (2, "a", 4), (3, "h", 5), (4, "h", 0), (5, "h", 6), (6, "h", 7),
            (7, "h", 8), (8, "h", 9), (9, "a", 2), (9, "b", 1), (9, "g", 10), (10, "g", 11), (11, "b", 2),
            (11, "h", 4)]
ROWS_301 = [(0, "h", 1), (1, "h", 2), (2, "h", 3), (3, "a", 4), (3, "b", 2), (3, "h", 5), (4, "a", 6), (5, "h", 7),
            (6, "g", 4), (6, "h", 0), (7, "b", 2), (7, "h", 8), (8, "b", 2), (8, "h", 9), (9, "b", 8), (9, "g", 10),
            (10, "g", 11), (11, "a", 4), (11, "b", 4), (11, "h", 6)]


def two_pushes():
    """The closing in which g takes off a push of a, and all pushes of b above it; h a push of b, if it is on top."""
    told = [("undone", "a", "g"), ("undone", "b", "h"), ("kept", "a", "h"), ("over", "b", "g"), ("still", "g", None),
            ("still", "h", None)]
    return close(TWO, [Sentence(TWO, kind, x, y) for kind, x, y in told])


def own_top_sizes(closing, sort, beginning):
    """The least sizes of words to each state and top, by making them shorter."""
    sizes = {(0, beginning): 0}
    arrows = own_sizes(closing, sort)
    while True:
        before = dict(sizes)
        for (p, x, q), more in arrows.items():
            for (state, top), size in before.items():
                if state == p:
                    after = x
                    if x is None or top == "new" and closing.is_still(x):
                        after = top
                    elif top not in ("new", "found") and closing.pair(top, x) is not None:
                        continue
                    sizes[q, after] = min(sizes.get((q, after), size + more), size + more)
        if sizes == before:
            return sizes
