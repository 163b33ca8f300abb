"""Specifications: named sentences about one ask, which may be changed."""

from asksmore.allowed import allowed, barred
from asksmore.answerers import Answerer
from asksmore.closing import close, require_few
from asksmore.errors import BadName, Known, Unknown
from asksmore.letters import require_same
from asksmore.machines import Machine
from asksmore.plain import is_short_word
from asksmore.sentences import Limit, Sentence
from asksmore.verdicts import decide


def require_name(value):
    """Refuse what is not a name."""
    if not is_short_word(value):
        raise BadName(value)


def is_answering(value):
    """Whether a value is a program that answers one ask."""
    return isinstance(value, Answerer) or isinstance(value, Machine)


def letters_of(answerer):
    """The letters of an answerer or a machine."""
    return answerer.closing.letters if isinstance(answerer, Answerer) else answerer.letters


def told_spec(letters, entries):
    """The specification with these entries."""
    spec = Spec(letters)
    spec.hold(entries)
    return spec


class Spec:
    """An ordered collection of named sentences about states and about answers."""

    def __init__(self, letters):
        if isinstance(letters, Spec):
            # A copy begins with what the other one holds: nothing of that ever changes, and it is not looked at anew.
            self.letters, self.closing, self.limits = letters.letters, letters.closing, letters.limits
            self._entries = letters.entries
        else:
            self.letters, self.closing, self.limits = letters, close(letters, ()), ()
            self._entries = ()

    @property
    def names(self):
        """The names, in order."""
        return tuple([name for name, item in self._entries])

    @property
    def entries(self):
        """The pairs of a name and its item, in order."""
        return self._entries

    def __len__(self):
        return len(self._entries)

    def __iter__(self):
        raise TypeError("a specification is not iterated over")

    def __getitem__(self, at):
        for name, item in self._entries:
            if name == at:
                return item
        raise Unknown(at)

    def __setitem__(self, at, worth):
        require_name(at)
        require_same(self.letters, worth.letters)
        if at in self.names:
            self.hold([(name, worth if name == at else item) for name, item in self._entries])
        else:
            require_few(len(self._entries) + 1)
            self.put_last(at, worth)

    def put_last(self, name, item):
        """Let an item stand at the end, under a new name."""
        # The closing goes on from what is told already: a specification that is filled is not closed anew each time.
        if isinstance(item, Sentence):
            self.closing = self.closing.followed(item)
        else:
            self.limits = (*self.limits, item)
        self._entries = (*self._entries, (name, item))

    def hold(self, entries):
        """Let these be the entries."""
        told = tuple([item for name, item in entries if isinstance(item, Sentence)])
        # A closing takes time, and it stays the same where only limits change.
        if told != self.closing.told:
            self.closing = close(self.letters, told)
        self.limits = tuple([item for name, item in entries if isinstance(item, Limit)])
        self._entries = tuple(entries)

    def drop(self, name):
        """Take a name out."""
        self.require_known([name])
        self.hold([(other, item) for other, item in self._entries if other != name])

    def require_known(self, names):
        """Refuse a name that is not there."""
        known = self.names
        for name in names:
            if name not in known:
                raise Unknown(name)

    def copy(self):
        """Another specification with the same entries."""
        return Spec(self)

    def selected(self, names):
        """Another specification with the entries of these names only."""
        self.require_known(names)
        return told_spec(self.letters, [(name, item) for name, item in self._entries if name in names])

    def joined(self, other):
        """Another specification with the entries of this one and then those of another one."""
        require_same(self.letters, other.letters)
        known = dict(self._entries)
        for name, item in other.entries:
            if name in known and known[name] != item:
                raise Known(name)
        entries = [*self._entries, *[(name, item) for name, item in other.entries if name not in known]]
        require_few(len(entries))
        return told_spec(self.letters, entries)

    def allowed(self, top):
        """The answers allowed at a top, or None if any is allowed."""
        return allowed(self.closing, self.limits, top)

    def is_possible(self):
        """Whether some answerer keeps the specification."""
        return not barred(self.closing, self.limits)

    def decide(self, test):
        """The verdict about a test."""
        return decide(self.closing, self.limits, test)

    def admits(self, program):
        """Whether a value is an answerer or a machine that keeps every sentence."""
        if not is_answering(program) or letters_of(program) != self.letters:
            return False
        return self.unkept(program) is None

    def unkept(self, program):
        """The first name whose sentence an answerer or a machine does not keep, or None."""
        require_same(self.letters, letters_of(program))
        for name, item in self._entries:
            if program.breaks(item) is not None:
                return name
        return None

    def trial(self, action):
        """What an action on this specification returns; its changes are taken back."""
        entries, closing, limits = self._entries, self.closing, self.limits
        try:
            return action(self)
        finally:
            self._entries, self.closing, self.limits = entries, closing, limits

    def attempt(self, action):
        """What an action on this specification returns; its changes are taken back if an error leaves it."""
        entries, closing, limits = self._entries, self.closing, self.limits
        try:
            result = action(self)
            # No error has left the action: what is there now stays.
            entries, closing, limits = self._entries, self.closing, self.limits
            return result
        finally:
            self._entries, self.closing, self.limits = entries, closing, limits
