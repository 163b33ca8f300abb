"""Machines that take or leave words, as tables: for each state, by the rank of a letter, the next state or None.

The start is state 0. Operators of sorts run these functions, so each one changes only what it makes itself.
"""


class Table:
    """The one form of a machine: its rows of next states, and for each state whether it is an end."""

    def __init__(self, moves, marks):
        self.moves = tuple([tuple(row) for row in moves])
        self.marks = tuple(marks)


def arrivals(moves):
    """By state and rank of a letter: the states from which this letter leads to it."""
    found = {}
    for state, row in enumerate(moves):
        for rank, target in enumerate(row):
            if target is not None:
                found[target, rank] = found.get((target, rank), ()) + (state,)
    return found


def leading(moves, marks):
    """For each state whether some word leads from it to an end."""
    back = arrivals(moves)
    found = [state for state, mark in enumerate(marks) if mark]
    is_found = list(marks)
    at = 0
    while at < len(found):
        for rank in range(len(moves[0])):
            for state in back.get((found[at], rank), ()):
                if not is_found[state]:
                    is_found[state] = True
                    found.append(state)
        at += 1
    return is_found


def in_order(moves, is_kept):
    """The kept states that words reach from state 0 through kept states, in the order of the first such words."""
    order = [0]
    is_seen = [state == 0 for state in range(len(moves))]
    at = 0
    while at < len(order):
        for target in moves[order[at]]:
            if target is not None and is_kept[target] and not is_seen[target]:
                is_seen[target] = True
                order.append(target)
        at += 1
    return order


def grouped(part, came):
    """These states in groups of one part."""
    pairs = sorted([(part[state], state) for state in came])
    starts = [at for at in range(len(pairs)) if at == 0 or pairs[at - 1][0] != pairs[at][0]]
    stops = starts[1:] + [len(pairs)]
    return [[state for number, state in pairs[start:stop]] for start, stop in zip(starts, stops)]


def parts(moves, kinds):
    """For each state a number, the same one for states from which each word leads to states of one kind.

    The kinds of the states are numbers from 0 on. Parts are torn until each letter leads all states of a part into
    one part or none. Of a part that is torn, only the smaller half must be asked about anew, so long rings of states
    take few rounds.
    """
    back = arrivals(moves)
    part = list(kinds)
    members = [[state for state, kind in enumerate(kinds) if kind == number] for number in range(max(kinds) + 1)]
    waiting = list(range(len(members)))
    is_waiting = [True for _ in members]
    while waiting:
        asked = waiting.pop()
        is_waiting[asked] = False
        inside = members[asked]
        for rank in range(len(moves[0])):
            came = [state for target in inside for state in back.get((target, rank), ())]
            for group in grouped(part, came):
                old, new = part[group[0]], len(members)
                if len(group) == len(members[old]):
                    continue
                for state in group:
                    part[state] = new
                members[old] = [state for state in members[old] if part[state] == old]
                members.append(group)
                is_waiting.append(False)
                next_one = new if is_waiting[old] or len(group) <= len(members[old]) else old
                waiting.append(next_one)
                is_waiting[next_one] = True
    return part


def renumbered(moves, order):
    """The rows of some states, which get the numbers of this order."""
    place = dict([(state, at) for at, state in enumerate(order)])
    return [[place.get(target) for target in moves[state]] for state in order]


def merged(moves, kinds):
    """The rows where states of one part are one state, numbered by their first members; these; and for each state
    its new number."""
    part = parts(moves, kinds)
    first = []
    number = {}
    for at in range(len(moves)):
        if part[at] not in number:
            number[part[at]] = len(first)
            first.append(at)
    rows = [[None if target is None else number[part[target]] for target in moves[at]] for at in first]
    return rows, first, [number[old] for old in part]


def one_form(moves, marks):
    """The one form of a machine."""
    is_kept = leading(moves, marks)
    if not is_kept[0]:
        return Table([[None for _ in moves[0]]], [False])
    order = in_order(moves, is_kept)
    rows, first, _ = merged(renumbered(moves, order), [1 if marks[state] else 0 for state in order])
    return Table(rows, [marks[order[at]] for at in first])


def moved(table, state, rank):
    """The next state, where None stays None."""
    return None if state is None else table.moves[state][rank]


def is_at_end(table, state):
    """Whether a state is an end; None is none."""
    return state is not None and table.marks[state]


def is_taken(kind, is_one, is_other):
    """Whether a word is taken that two machines take or leave."""
    if kind == "either":
        return is_one or is_other
    if kind == "both":
        return is_one and is_other
    if kind == "first":
        return is_one and not is_other
    return is_one != is_other


def paired(one, other, kind):
    """The one form for the words that two tables take: either, both, the first alone, or exactly one of them."""
    order = [(0, 0)]
    place = {(0, 0): 0}
    moves = []
    while len(moves) < len(order):
        left, right = order[len(moves)]
        row = []
        for rank in range(len(one.moves[0])):
            pair = (moved(one, left, rank), moved(other, right, rank))
            if pair not in place:
                place[pair] = len(order)
                order.append(pair)
            row.append(place[pair])
        moves.append(row)
    return one_form(moves, [is_taken(kind, is_at_end(one, left), is_at_end(other, right)) for left, right in order])


def determined(starts, steps, marks):
    """The one form of a machine that may be in several states at once.

    `steps` has for each state, by the rank of a letter, a list of next states.
    """
    order = [tuple(sorted(set(starts)))]
    place = {order[0]: 0}
    moves = []
    while len(moves) < len(order):
        row = []
        for rank in range(len(steps[0])):
            together = tuple(sorted(set([target for state in order[len(moves)] for target in steps[state][rank]])))
            if together not in place:
                place[together] = len(order)
                order.append(together)
            row.append(place[together])
        moves.append(row)
    return one_form(moves, [any([marks[state] for state in together]) for together in order])


def turned_round(table):
    """The one form for all words that a table does not take."""
    dead = len(table.moves)
    moves = [[dead if target is None else target for target in row] for row in table.moves]
    moves.append([dead for _ in table.moves[0]])
    return one_form(moves, [not mark for mark in table.marks] + [True])


def entered(table, target, more):
    """The states in which one is when a row has led to a state, where a further one may be entered at an end."""
    if target is None:
        return []
    return [target, more] if table.marks[target] else [target]


def in_succession(one, other):
    """The one form for each word of one table followed by each word of another one."""
    shift = len(one.moves)
    steps = [[entered(one, target, shift) for target in row] for row in one.moves]
    behind = [[[] if target is None else [target + shift] for target in row] for row in other.moves]
    starts = [0, shift] if one.marks[0] else [0]
    return determined(starts, steps + behind, [False for _ in one.marks] + list(other.marks))


def over_and_over(table):
    """The one form for any number of words of a table, one after the other."""
    # Behind the states stands one more: the place between two words, where the next one may begin.
    between = len(table.moves)
    steps = [[entered(table, target, between) for target in row] for row in table.moves + table.moves[:1]]
    return determined([between], steps, [False for _ in table.marks] + [True])


def seen_from(table, state):
    """The one form for the words that lead from a state to an end."""
    # A new start stands ahead of all states, since the start of a table is its state 0.
    rows = [table.moves[state], *table.moves]
    moves = [[None if target is None else target + 1 for target in row] for row in rows]
    return one_form(moves, [table.marks[state], *table.marks])


def stepped_on(table, word):
    """The state to which the ranks of a word lead, or None."""
    state = 0
    for rank in word:
        state = moved(table, state, rank)
    return state


def leap(moves, state, rank, count):
    """The state after so many times one letter, or None."""
    way = []
    while state is not None and state not in way and len(way) < count:
        way.append(state)
        state = moves[state][rank]
    left = count - len(way)
    if left == 0 or state is None:
        return state
    ring = way[way.index(state):]
    return ring[left % len(ring)]


def first_word(table):
    """The first word in the order of words, by ranks; None if no word is taken."""
    came = {}
    for state, row in enumerate(table.moves):
        for rank, target in enumerate(row):
            if target is not None and target not in came:
                came[target] = (state, rank)
    ends = [state for state, mark in enumerate(table.marks) if mark]
    if not ends:
        return None
    # The states of the one form are numbered by their first words, so the first end has the first word.
    word = []
    state = ends[0]
    while state != 0:
        state, rank = came[state]
        word.append(rank)
    return word[::-1]
