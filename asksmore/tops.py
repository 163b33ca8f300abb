"""Tops of struck forms and what live letters do behind them, by the ranks of letters.

In place of a live letter stands its rank. NOTHING stands for no letter; as a top it stands for the beginning.
"""

NOTHING = -1


def left_of(kind, x, y):
    """What is left of two letters in succession of which a sentence of this kind speaks."""
    if kind == "kept":
        return x
    return y if kind == "over" else NOTHING


class Tops:
    """The closed form of a closing, by ranks."""

    def __init__(self, closing):
        letters = closing.letters
        self.letters = letters
        leasts = [closing.least(letter) for letter in letters]
        self.struck_to = [NOTHING if letter is None else letters.rank(letter) for letter in leasts]
        self.live = [rank for rank, least in enumerate(self.struck_to) if rank == least]
        self.stills = {rank: True for rank in self.live if closing.is_still(letters.words[rank])}
        self.met = {}
        for x in self.live:
            for y in self.live:
                kind = closing.pair(letters.words[x], letters.words[y])
                if kind is not None:
                    self.met[x, y] = left_of(kind, x, y)

    def behind(self, beginning, top, y):
        """The top when a live letter follows a top; None if the letters that are then neighbours are not struck.

        A still letter does nothing to a new object: there the top stays the beginning.
        """
        if top == NOTHING:
            return NOTHING if beginning == "new" and y in self.stills else y
        return None if (top, y) in self.met else y

    def together(self, x, y):
        """What two letters (or nothing) in succession strike to; None if both are left."""
        if x == NOTHING or y == NOTHING:
            return y if x == NOTHING else x
        return self.met.get((x, y))


def coded(letters, x):
    """The rank of a letter; NOTHING for None."""
    return NOTHING if x is None else letters.rank(x)


def named(letters, x):
    """The letter of a rank; None for NOTHING."""
    return None if x == NOTHING else letters.words[x]
