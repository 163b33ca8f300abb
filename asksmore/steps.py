"""Steps of chains: what a step changes, and how it is turned around."""

from asksmore.plain import is_list_of, is_whole
from asksmore.runs import joined, parted, size_of, spliced
from asksmore.sentences import sides


def is_step(value, many):
    """Whether a value is a step by one of so many sentences."""
    if not is_list_of(value, 4) or not all([is_whole(part) for part in value]):
        return False
    row, place, way, times = value
    return 0 <= row < many and place >= 0 and way in (1, -1) and times >= 1


def drift(kind, way):
    """How far the place moves from one change of a step to the next one."""
    if kind == "alike":
        return 1
    return -way if kind in ("over", "undone") else 0


def turned(kinds, steps):
    """The way back: the steps by sentences of these kinds from the last one to the first one."""
    back = []
    for row, place, way, times in steps[::-1]:
        # Changes by alike do not touch one another; all others are taken back from the last place.
        moved = 0 if kinds[row] == "alike" else drift(kinds[row], way) * (times - 1)
        back.append((row, place + moved, -way, times))
    return tuple(back)


def exchanged(runs, place, taken, put):
    """Runs with `put` at a place instead of `taken`; None if `taken` does not stand there."""
    found = parted(runs, place)
    if found is None:
        return None
    head, rest = found
    found = parted(rest, size_of(taken))
    if found is None or found[0] != joined(taken):
        return None
    return spliced(spliced(head, joined(put)), found[1])


def stepped(beginning, runs, sentence, step):
    """The runs of a history from this beginning after a step by the sentence; None if it cannot be done."""
    place, way, times = step[1:]
    if sentence.kind == "still" and (beginning != "new" or place > 0):
        return None
    # All changes of a step together take out one stretch without gaps; it begins at the least place.
    moved = drift(sentence.kind, way) * (times - 1)
    first = place + min(moved, 0)
    if first < 0:
        return None
    left, right = sides(sentence.kind, sentence.first, sentence.second, times)
    if way == 1:
        return exchanged(runs, first, left, right)
    return exchanged(runs, first, right, left)


def leads(sentences, first, last, steps):
    """Whether a value is a list of steps by these sentences that leads from one history to the other."""
    if not isinstance(steps, (list, tuple)) or first.beginning != last.beginning:
        return False
    runs = first.runs
    for step in steps:
        if not is_step(step, len(sentences)):
            return False
        runs = stepped(first.beginning, runs, sentences[step[0]], step)
        if runs is None:
            return False
    return runs == last.runs
