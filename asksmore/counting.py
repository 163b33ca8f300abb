"""How many words a table takes: by size, in order, and in all."""

MOST_RANKED = 300


def longer(table, counts):
    """From the numbers of words of some size that lead from each state to an end, those of one letter more."""
    return [sum([counts[target] for target in row if target is not None]) for row in table.moves]


def counts_to(table, size):
    """For each size up to this one, for each state, how many words of it lead from the state to an end."""
    levels = [[1 if mark else 0 for mark in table.marks]]
    while len(levels) <= size:
        levels.append(longer(table, levels[-1]))
    return levels


def rank_in(table, word):
    """How many words that a table takes come before a word, which is given by ranks."""
    levels = counts_to(table, len(word))
    before = sum([counts[0] for counts in levels[:-1]])
    state = 0
    for at, rank in enumerate(word):
        left = levels[len(word) - at - 1]
        row = table.moves[state]
        before = before + sum([left[target] for target in row[:rank] if target is not None])
        state = row[rank]
    return before


def is_endless(table):
    """Whether there are infinitely many words: one of them has as many letters as there are states, or more."""
    many = len(table.moves)
    return any([counts[0] > 0 for counts in counts_to(table, 2 * many)[many:]])


def word_at(table, place):
    """The word with so many words before it, by ranks; None if it has more than 300 letters or is not there."""
    levels = list(counts_to(table, 0))
    left = place
    while left >= levels[-1][0]:
        if len(levels) > MOST_RANKED:
            return None
        left = left - levels[-1][0]
        levels.append(longer(table, levels[-1]))
    return word_of_size(table, levels[:-1], left)


def word_of_size(table, levels, place):
    """The word with so many words of its size before it; the levels are those of all smaller sizes."""
    left = place
    state = 0
    word = []
    for counts in levels[::-1]:
        for rank, target in enumerate(table.moves[state]):
            if target is None:
                continue
            if left < counts[target]:
                word.append(rank)
                state = target
                break
            left = left - counts[target]
    return word


def reduced(number, modulo):
    """The remainder of a number, or the number itself if there is no modulo."""
    return number if modulo is None else number % modulo


def number_walked(table, size, modulo):
    """How many words have so many letters, going through all smaller sizes."""
    counts = [1 if mark else 0 for mark in table.marks]
    for _ in range(size):
        counts = [reduced(count, modulo) for count in longer(table, counts)]
    return reduced(counts[0], modulo)


def ways_joined(one, other, modulo):
    """From the numbers of ways of two sizes between each two states, those of both sizes together."""
    columns = list(zip(*other))
    return [[reduced(sum([a * b for a, b in zip(row, column)]), modulo) for column in columns] for row in one]


def number_squared(table, size, modulo):
    """How many words have so many letters, by doubling sizes."""
    span = range(len(table.moves))
    ways = [[table.moves[start].count(end) for end in span] for start in span]
    reach = [[1 if start == end else 0 for end in span] for start in span]
    left = size
    while left > 0:
        if left % 2 == 1:
            reach = ways_joined(reach, ways, modulo)
        ways = ways_joined(ways, ways, modulo)
        left //= 2
    return reduced(sum([reach[0][end] for end in span if table.marks[end]]), modulo)


def first_difference(one, other):
    """The least size of which two tables take different numbers of words, or None."""
    # Numbers that are equal for as many sizes as both have states together stay equal.
    most = len(one.moves) + len(other.moves)
    for size, (left, right) in enumerate(zip(counts_to(one, most), counts_to(other, most))):
        if left[0] != right[0]:
            return size
    return None


def reached_from(table, start):
    """The states to which words of one letter or more lead from a state."""
    found = {}
    todo = [start]
    while todo:
        state = todo.pop()
        for target in table.moves[state]:
            if target is not None and target not in found:
                found[target] = True
                todo.append(target)
    return found


def growth_of(table):
    """How the numbers of words grow with the size."""
    reach = [reached_from(table, state) for state in range(len(table.moves))]
    ringed = [state for state in range(len(table.moves)) if state in reach[state]]
    if not ringed:
        return "finite", sum([counts[0] for counts in counts_to(table, len(table.moves))])
    depth = {}
    # What lies behind a ring reaches fewer states than the ring itself.
    for state in sorted(ringed, key=lambda ring: len(reach[ring])):
        if len([target for target in table.moves[state] if target is not None and state in reach[target]]) > 1:
            return "wild", 0
        behind = [depth[other] for other in depth if other in reach[state] and state not in reach[other]]
        depth[state] = 1 + max([0, *behind])
    return "steady", max(list(depth.values())) - 1
