"""What the tests compute on their own about machines that take or leave words."""

from asksmore.closing import close
from asksmore.letters import Letters
from asksmore.sentences import Sentence
from asksmore.sorts import Sort
from tests.own import words

AB = Letters(["a", "b"])
ABC = Letters(["b", "a", "c"])


def is_taken(rows, ends, word):
    """Whether the rows lead from state 0 along a word to an end."""
    state = 0
    for letter in word:
        state = dict([((start, by), to) for start, by, to in rows]).get((state, letter))
    return state in ends


def own_words(rows, ends, letters, most):
    """The words up to some size that rows and ends take, in order."""
    return [word for word in words(letters, most) if is_taken(rows, ends, word)]


def listed(sort, most):
    """The words of a sort up to some size, in order."""
    return own_words(sort.rows, sort.ends, sort.letters, most)


def own_rows(rows, ends, letters, most):
    """The rows and the ends of the one form, told apart by all words up to some size."""
    table = {(start, by): to for start, by, to in rows}

    def behind(state):
        """The words that lead from a state to an end."""
        found = []
        for word in words(letters, most):
            at = state
            for letter in word:
                at = table.get((at, letter))
            if at in ends:
                found.append(word)
        return tuple(found)

    number = {behind(0): 0}
    order = [0]
    told = []
    for state in order:
        for letter in letters:
            to = table.get((state, letter))
            kind = None if to is None else behind(to)
            if kind and kind not in number:
                number[kind] = len(order)
                order.append(to)
            if kind:
                told.append((number[behind(state)], letter, number[kind]))
    return tuple(told), tuple(at for at, state in enumerate(order) if state in ends)


def random_machine(source, letters, states, missing=0.3):
    """Rows and ends of some machine."""
    rows = [(state, letter, source.randrange(states)) for state in range(states) for letter in letters
            if source.random() >= missing]
    source.shuffle(rows)
    return rows, [state for state in range(states) if source.random() < 0.4]


def random_sort(source, letters, states, missing=0.3):
    """Some sort."""
    return Sort(letters, *random_machine(source, letters, states, missing))


def times_of(letters, letter, modulo):
    """The sort of the words in which a letter stands a multiple of so many times."""
    rows = [(state, other, (state + (other == letter)) % modulo) for state in range(modulo) for other in letters]
    return Sort(letters, rows, [0])


def size_of_times(letters, modulo):
    """The sort of the words whose size is a multiple of a number."""
    return Sort(letters, [(state, x, (state + 1) % modulo) for state in range(modulo) for x in letters], [0])


def own_size(letters, start, step, is_end):
    """The number of states of the one form of a machine, by telling apart until nothing new is told apart."""
    order, ways = [start], {}
    for state in order:
        if state not in ways:
            ways[state] = [step(state, letter) for letter in letters]
            order.extend(ways[state])
    order = list(ways)
    kinds = {state: is_end(state) for state in order}
    while True:
        told = {state: (kinds[state],) + tuple(kinds[other] for other in ways[state]) for state in order}
        numbers = {kind: at for at, kind in enumerate(dict.fromkeys(told.values()))}
        if len(numbers) == len(set(kinds.values())):
            break
        kinds = {state: numbers[told[state]] for state in order}
    dead = {kinds[state] for state in order}
    for kind in list(dead):
        seen = [state for state in order if kinds[state] == kind][:1]
        for state in seen:
            seen.extend(set(ways[state]) - set(seen))
        if any(is_end(state) for state in seen):
            dead.discard(kind)
    return max(1, len(set(kinds.values())) - len(dead))


def own_repeated_size(sort):
    """The number of states of the one form of a sort that is repeated."""
    rows = {(start, by): to for start, by, to in sort.rows}

    def step(states, letter):
        """The states behind a letter; -1 stands between two words."""
        found = {rows.get((max(state, 0), letter)) for state in states} - {None}
        return frozenset(found | ({-1} if found & set(sort.ends) else set()))

    return own_size(sort.letters, frozenset([-1]), step, lambda states: -1 in states)


def own_sum_size(one, other):
    """The number of states of the one form of a sort followed by another one."""
    rows = {(0, start, by): (0, to) for start, by, to in one.rows}
    rows.update({(1, start, by): (1, to) for start, by, to in other.rows})

    def entered(states):
        """The states with the start of the second sort where the first one has ended."""
        return frozenset(states | ({(1, 0)} if any(at == 0 and state in one.ends for at, state in states) else set()))

    def step(states, letter):
        """The states behind a letter."""
        return entered({rows.get((*state, letter)) for state in states} - {None})

    return own_size(one.letters, entered({(0, 0)}), step,
                    lambda states: any(at == 1 and state in other.ends for at, state in states))


# Of this sort the first words that strike to a letter or to nothing have up to 1389 letters.
PUSHES = Letters(list("abcdefgh"))
LONG_ROWS = [
    (0, "a", 1), (0, "b", 2), (0, "h", 3), (1, "a", 0), (1, "c", 4), (1, "d", 5), (1, "e", 5), (1, "f", 6),
    (1, "g", 7), (1, "h", 6), (2, "a", 8), (2, "f", 0), (2, "g", 0), (3, "d", 8), (3, "f", 3), (3, "h", 4),
    (4, "a", 2), (4, "g", 8), (4, "h", 4), (5, "b", 9), (5, "e", 2), (5, "f", 8), (5, "g", 10), (5, "h", 6),
    (6, "c", 4), (6, "e", 5), (6, "g", 6), (6, "h", 2), (7, "b", 2), (7, "e", 5), (7, "f", 2), (7, "g", 9),
    (8, "a", 11), (8, "b", 4), (8, "f", 0), (8, "h", 2), (9, "a", 10), (9, "c", 3), (9, "d", 4), (9, "g", 0),
    (9, "h", 0), (10, "c", 8), (10, "d", 3), (11, "a", 4), (11, "b", 7), (11, "d", 10), (11, "g", 1), (11, "h", 3)]


def long_closing():
    """The closing in which e undoes a, f b, g c, h d."""
    return close(PUSHES, [Sentence(PUSHES, "undone", x, y) for x, y in zip("abcd", "efgh")])


def own_state(sort, state, word):
    """The state to which the rows of a sort lead along a word, or None."""
    rows = {(start, by): to for start, by, to in sort.rows}
    for letter in word:
        state = rows.get((state, letter))
    return state


def live_of(closing):
    """The live letters."""
    return [letter for letter in closing.letters if closing.least(letter) == letter]


def own_together(closing, x, y):
    """What two live letters or None strike to together; False if both are left."""
    if x is None or y is None:
        return y if x is None else x
    return {"kept": x, "over": y, "undone": None, None: False}[closing.pair(x, y)]


def own_sizes(closing, sort):
    """The least sizes of the words between two states that strike to a letter or None, by making them shorter."""
    sizes = {(start, closing.least(by), to): 1 for start, by, to in sort.rows}
    sizes.update({(state, None, state): 0 for state in range(sort.states)})
    todo = list(sizes)
    while todo:
        changed = {}
        for start, x, middle in todo:
            for (other, y, end), size in list(sizes.items()):
                for one, two in (((start, x, middle), (other, y, end)), ((other, y, end), (start, x, middle))):
                    z = own_together(closing, one[1], two[1]) if one[2] == two[0] else False
                    more = sizes[one] + sizes[two]
                    if z is not False and more < sizes.get((one[0], z, two[2]), more + 1):
                        sizes[one[0], z, two[2]] = more
                        changed[one[0], z, two[2]] = True
        todo = list(changed)
    return sizes
