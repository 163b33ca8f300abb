"""Papers: lists that show step by step that a test is fair.

Each part of a paper is what a walk along its arrows comes to, or more. So a walk makes a part by going on from its
starts until nothing new is found, and it checks a part by asking whether all this is there.
"""

from asksmore.letters import BEGINNINGS
from asksmore.plain import is_index, is_list_of


def outward(arrows, states):
    """For each state the arrows from it: letters (or None) and states."""
    return [[(x, end) for start, x, end in arrows if start == state] for state in range(states)]


class TopWalk:
    """For tests of the answers after histories: the tops at each state."""

    def __init__(self, closing, test, arrows, live):
        self.starts = [(0, test.beginning)]
        self.live = live
        self.many = test.domain.states
        self.outward = outward(arrows, test.domain.states)
        self.led = {(top, None): top for top in [*BEGINNINGS, *live]}
        for y in live:
            self.led["new", y] = "new" if closing.is_still(y) else y
            self.led["found", y] = y
            for top in live:
                if closing.pair(top, y) is None:
                    self.led[top, y] = y

    def onward(self, node):
        """The states and tops behind a state and a top."""
        state, top = node
        return [(end, self.led[top, x]) for x, end in self.outward[state] if (top, x) in self.led]

    def read(self, value):
        """A node of a value, or None if it is none."""
        if not is_list_of(value, 2) or not is_index(value[0], self.many):
            return None
        return tuple(value) if value[1] in [*BEGINNINGS, *self.live] else None


class GroundWalk:
    """For tests that compare two words: the states to which words lead that leave no letter."""

    def __init__(self, closing, test, arrows, live):
        self.starts = [0]
        self.many = test.domain.states
        self.outward = outward(arrows, test.domain.states)
        self.gone = [None] + [y for y in live if test.beginning == "new" and closing.is_still(y)]

    def onward(self, node):
        """The states behind a state."""
        return [end for x, end in self.outward[node] if x in self.gone]

    def read(self, value):
        """A state of a value, or None if it is none."""
        return value if is_index(value, self.many) else None


class NodeWalk:
    """For tests that compare two words: what struck words that lead to an end say, read from their last letter.

    A node is a state, the first letter of such a word that leads from there to an end (or None), and its stand.
    """

    def __init__(self, closing, test, arrows, live, stands):
        self.starts = [(state, None, 0) for state in test.domain.ends]
        self.live = live
        self.many = test.domain.states
        self.stands = stands
        self.inward = outward([(end, x, start) for start, x, end in arrows], test.domain.states)
        self.joints = {(z, top): True for z in live for top in live if closing.pair(z, top) is None}

    def onward(self, node):
        """The nodes with one more arrow ahead."""
        state, top, stand = node
        found = []
        for z, start in self.inward[state]:
            if z is None:
                found.append((start, top, stand))
            elif top is None or (z, top) in self.joints:
                found.append((start, z, self.stands.step(stand, z)))
        return found

    def read(self, value):
        """A node of a value, or None if it is none."""
        if not is_list_of(value, 3) or not is_index(value[0], self.many) or value[1] not in [None, *self.live]:
            return None
        return tuple(value) if is_index(value[2], self.stands.size) else None


def walked_through(walk):
    """All that a walk comes to, in the order in which it does."""
    found = dict([(node, True) for node in walk.starts])
    order = list(found)
    at = 0
    while at < len(order):
        for node in walk.onward(order[at]):
            if node not in found:
                found[node] = True
                order.append(node)
        at += 1
    return tuple(order)


def read_part(walk, value):
    """The nodes of a value as a dict of True, if it holds all that a walk comes to; None otherwise."""
    if not isinstance(value, (list, tuple)):
        return None
    nodes = [walk.read(part) for part in value]
    if None in nodes:
        return None
    found = {node: True for node in nodes}
    due = walk.starts + [other for node in found for other in walk.onward(node)]
    return found if all([node in found for node in due]) else None
