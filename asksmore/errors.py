"""The errors of the package: each has its fields as attributes."""

from asksmore.plain import copied


class AsksError(ValueError):
    """What all errors of this package are."""


class BadLetters(AsksError):
    """A list of letters is empty, or holds something else or a letter twice."""

    def __init__(self, index):
        self.index = copied(index)


class BadLetter(AsksError):
    """Something is not one of the letters."""

    def __init__(self, index):
        self.index = copied(index)


class BadBeginning(AsksError):
    """A beginning is neither new nor found."""


class BadRuns(AsksError):
    """Something is not a run."""

    def __init__(self, index):
        self.index = copied(index)


class BadCount(AsksError):
    """The count of a run is not an integer in its bounds."""

    def __init__(self, index):
        self.index = copied(index)


class BadPlace(AsksError):
    """There is no such place."""

    def __init__(self, place):
        self.place = copied(place)


class BadKind(AsksError):
    """There is no such kind of sentence."""


class SaysNothing(AsksError):
    """A sentence says that a letter is like itself."""


class BadAnswers(AsksError):
    """Something is not an answer, or no answer is given."""

    def __init__(self, index):
        self.index = copied(index)


class BadTold(AsksError):
    """Something is not a sentence over these letters."""

    def __init__(self, index):
        self.index = copied(index)


class BadStep(AsksError):
    """Something is not a step, or has no row."""

    def __init__(self, index):
        self.index = copied(index)


class NotLive(AsksError):
    """A letter is not live."""

    def __init__(self, index):
        self.index = copied(index)


class OtherLetters(AsksError):
    """Two things are over different letters."""


class TooLong(AsksError):
    """A word is longer than it may be."""

    def __init__(self, size):
        self.size = copied(size)


class TooMany(AsksError):
    """There are more things of a kind than there may be."""

    def __init__(self, what, many, most):
        self.what = copied(what)
        self.many = copied(many)
        self.most = copied(most)


class BadRow(AsksError):
    """Something is not a row."""

    def __init__(self, index):
        self.index = copied(index)


class TwiceTold(AsksError):
    """A row has the state and the letter of an earlier one."""

    def __init__(self, index):
        self.index = copied(index)


class BadEnd(AsksError):
    """Something is not an end."""

    def __init__(self, index):
        self.index = copied(index)


class BadNumber(AsksError):
    """Something is not an integer in its bounds."""

    def __init__(self, number):
        self.number = copied(number)


class BadMenu(AsksError):
    """Something in a menu is not a letter."""

    def __init__(self, index):
        self.index = copied(index)


class BadState(AsksError):
    """Something is not a state."""

    def __init__(self, index):
        self.index = copied(index)


class Uneven(AsksError):
    """There are not as many answers as states."""

    def __init__(self, have, want):
        self.have = copied(have)
        self.want = copied(want)


class BadTop(AsksError):
    """Something is not a top, or has no answer."""

    def __init__(self, top):
        self.top = copied(top)


class BadWord(AsksError):
    """Something in a word is not a letter."""

    def __init__(self, which, index):
        self.which = copied(which)
        self.index = copied(index)


class BadStand(AsksError):
    """Something is not a stand."""

    def __init__(self, stand):
        self.stand = copied(stand)


class BadSpecial(AsksError):
    """A special history is there already or has too many runs."""

    def __init__(self, index):
        self.index = copied(index)


class BadName(AsksError):
    """Something is not a name."""

    def __init__(self, name):
        self.name = copied(name)


class Unknown(AsksError):
    """A name is not there."""

    def __init__(self, name):
        self.name = copied(name)


class Known(AsksError):
    """A name is there already."""

    def __init__(self, name):
        self.name = copied(name)


class Impossible(AsksError):
    """Nothing keeps a specification."""


class Unfair(AsksError):
    """A set of sentences is not enough from the outset."""


class NoFact(AsksError):
    """A log holds no fact."""


class BadDeeds(AsksError):
    """Something is not a deed, or its word is there already."""

    def __init__(self, index):
        self.index = copied(index)


class BadAsks(AsksError):
    """Something is not an ask, or its word is there already."""

    def __init__(self, index):
        self.index = copied(index)


class BadProgram(AsksError):
    """An ask has no answerer, or one over other letters."""

    def __init__(self, ask):
        self.ask = copied(ask)


class OtherDeeds(AsksError):
    """Two books have different deeds or asks."""


class BadText(AsksError):
    """A text has a wrong word."""

    def __init__(self, line, place):
        self.line = copied(line)
        self.place = copied(place)


class Refused(AsksError):
    """A change is refused."""

    def __init__(self, ask, name):
        self.ask = copied(ask)
        self.name = copied(name)


class Overasked(AsksError):
    """A guard is not fair, or not any more."""

    def __init__(self, name):
        self.name = copied(name)


class NothingLeft(AsksError):
    """Nothing is left to take back or to do again."""
