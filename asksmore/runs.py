"""Runs: a history's letters, written as pairs of a letter and how often it stands in succession.

The functions take and return tuples of runs in which no two neighbours have the same letter, but
for `joined`, which makes them so.
"""


def joined(runs):
    """The same letters, with neighbouring runs of one letter joined."""
    kept = []
    last, total = None, 0
    for letter, count in runs:
        if letter == last:
            total = total + count
        else:
            if last is not None:
                kept.append((last, total))
            last, total = letter, count
    if last is not None:
        kept.append((last, total))
    return tuple(kept)


def spliced(head, tail):
    """The letters of `head` and then those of `tail`."""
    if head and tail and head[-1][0] == tail[0][0]:
        return head[:-1] + ((head[-1][0], head[-1][1] + tail[0][1]),) + tail[1:]
    return head + tail


def parted(runs, size):
    """The runs of the first `size` letters and those of the others; None if there are fewer."""
    left = size
    for index, (letter, count) in enumerate(runs):
        if left == 0:
            return runs[:index], runs[index:]
        if left < count:
            return runs[:index] + ((letter, left),), ((letter, count - left),) + runs[index + 1:]
        left = left - count
    return (runs, ()) if left == 0 else None


def size_of(runs):
    """The number of letters."""
    return sum([count for letter, count in runs])
