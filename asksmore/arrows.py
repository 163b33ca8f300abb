"""Arrows: which letters the words between two states of a sort strike to, and searches along them.

An arrow is a triple of a state, the rank of a live letter or NOTHING, and a state.
"""

from asksmore.plain import is_index, is_list_of
from asksmore.tables import determined
from asksmore.tops import NOTHING, Tops, coded, named
from asksmore.ways import NO_WAY, first_ways, in_turn


class Arrows:
    """For each arrow the first word that leads between its states and strikes to its letter."""

    def __init__(self, closing, sort):
        self.tops = Tops(closing)
        self.table = sort.table
        self.leaving = {}
        self.entering = {}
        places = [NOTHING, *self.tops.live]
        joints = [(x, y, self.tops.together(x, y)) for x in places for y in places]
        self.followers = {x: [(y, z) for w, y, z in joints if w == x and z is not None] for x in places}
        self.leaders = {y: [(w, z) for w, x, z in joints if x == y and z is not None] for y in places}
        self.ways = first_ways(self.single_ways(), lambda arrow, way: self.longer(arrow, way))
        states = range(len(self.table.moves))
        moving = [(arrow, self.ways[arrow]) for arrow in sorted(list(self.ways)) if self.ways[arrow] != NO_WAY]
        self.outward = [[(x, end, way) for (start, x, end), way in moving if start == state] for state in states]
        self.inward = [[(x, start, way) for (start, x, end), way in moving if end == state] for state in states]

    def single_ways(self):
        """The first ways of at most one letter."""
        ways = {(state, NOTHING, state): NO_WAY for state in range(len(self.table.moves))}
        for state, row in enumerate(self.table.moves):
            for rank, target in enumerate(row):
                if target is not None:
                    # Ranks ascend, so the first way that is found is the first one by the order of words.
                    ways.setdefault((state, self.tops.struck_to[rank], target), (1, (rank,)))
        return ways

    def longer(self, arrow, way):
        """Take in an arrow with its first way: the arrows, with ways, that it makes with those taken in so far."""
        start, x, end = arrow
        if way == NO_WAY:
            return []
        self.leaving.setdefault(start, {}).setdefault(x, []).append((end, way))
        self.entering.setdefault(end, {}).setdefault(x, []).append((start, way))
        behind = self.leaving.get(end, {})
        ahead = self.entering.get(start, {})
        found = [(in_turn(way, more), (start, z, other))
                 for y, z in self.followers[x] for other, more in behind.get(y, ())]
        return found + [(in_turn(more, way), (other, z, end))
                        for w, z in self.leaders[x] for other, more in ahead.get(w, ())]


def tops_reached(arrows, beginning):
    """The first ways from the start to each state with each top."""
    def onward(node, way):
        """The next ways behind a state and a top."""
        state, top = node
        found = []
        for x, end, more in arrows.outward[state]:
            after = top if x == NOTHING else arrows.tops.behind(beginning, top, x)
            if after is not None:
                found.append((in_turn(way, more), (end, after)))
        return found

    return first_ways({(0, NOTHING): NO_WAY}, onward)


def forms_reached(arrows, beginning, forms):
    """The first way of a word of the sort whose struck form is taken by a table; None if there is none."""
    def onward(node, way):
        """The next ways behind a state, a top and a state of the table."""
        state, top, place = node
        found = []
        for x, end, more in arrows.outward[state]:
            after = top if x == NOTHING else arrows.tops.behind(beginning, top, x)
            # A letter that leaves the top the beginning does not stand in the struck form.
            target = place if x == NOTHING or after == NOTHING else forms.moves[place][x]
            if after is not None and target is not None:
                found.append((in_turn(way, more), (end, after, target)))
        return found

    ways = first_ways({(0, NOTHING, 0): NO_WAY}, onward)
    taken = [ways[node] for node in ways if arrows.table.marks[node[0]] and forms.marks[node[2]]]
    return min(taken, default=None)


def struck_steps(arrows, beginning):
    """The nodes of a state and a top, and for each one, by the rank of a letter, those that the letter leads to."""
    tops = arrows.tops
    nodes = [(state, top) for state in range(len(arrows.table.moves)) for top in [NOTHING, *tops.live]]
    place = {node: at for at, node in enumerate(nodes)}
    steps = []
    for state, top in nodes:
        row = [[] for _ in tops.letters]
        for x, end, _ in arrows.outward[state]:
            if x != NOTHING and tops.behind(beginning, top, x) == x:
                row[x].append(place[end, x])
        steps.append(row)
    return nodes, steps


def struck_table(arrows, beginning):
    """The one form for the words of the struck forms of the histories of the sort."""
    nodes, steps = struck_steps(arrows, beginning)
    reached = tops_reached(arrows, beginning)
    starts = [at for at, (state, top) in enumerate(nodes) if top == NOTHING and (state, top) in reached]
    return determined(starts, steps, [arrows.table.marks[state] for state, top in nodes])


def told_arrows(letters, codes):
    """Arrows, in order, with letters in the place of ranks."""
    return tuple([(start, named(letters, x), end) for start, x, end in sorted(list(codes))])


def read_arrows(tops, states, value):
    """The arrows of a value by the ranks of letters, as a dict of True; None if it is no list of such."""
    if not isinstance(value, (list, tuple)):
        return None
    live = [None] + [tops.letters.words[rank] for rank in tops.live]
    found = {}
    for part in value:
        if not is_list_of(part, 3) or part[1] not in live:
            return None
        if not is_index(part[0], states) or not is_index(part[2], states):
            return None
        found[part[0], coded(tops.letters, part[1]), part[2]] = True
    return found


def are_closed(tops, table, arrows):
    """Whether arrows are those of all words of a sort, or more, with all that two of them make together."""
    for state, row in enumerate(table.moves):
        due = [(tops.struck_to[rank], target) for rank, target in enumerate(row) if target is not None]
        if any([(state, x, target) not in arrows for x, target in [*due, (NOTHING, state)]]):
            return False
    behind = [[(x, end) for start, x, end in arrows if start == state] for state in range(len(table.moves))]
    for start, x, middle in arrows:
        for y, end in behind[middle]:
            z = tops.together(x, y)
            if z is not None and (start, z, end) not in arrows:
                return False
    return True
