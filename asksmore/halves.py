"""Half sentences: the weakest single sentences that make a test fair."""

from asksmore.allowed import barred
from asksmore.errors import Impossible, TooMany
from asksmore.letters import require_same
from asksmore.sentences import Sentence
from asksmore.strikes import follows
from asksmore.verdicts import decide

PAIR_KINDS = ("kept", "over", "undone")
MOST_LETTERS = 6


def menu(letters):
    """All state sentences over some letters, each once."""
    words = letters.words
    idle = [Sentence(letters, "idle", x) for x in words]
    alike = [Sentence(letters, "alike", x, z) for at, x in enumerate(words) for z in words[:at]]
    still = [Sentence(letters, "still", y) for y in words]
    # What overwrites itself is kept, which is there already.
    pairs = [Sentence(letters, kind, x, y) for x in words for y in words for kind in PAIR_KINDS
             if kind != "over" or x != y]
    return tuple(idle + alike + still + pairs)


def halves(spec, test):
    """The weakest sentences of the menu that make a test fair, each alone; none if it is fair already."""
    require_same(spec.letters, test.letters)
    if len(spec.letters) > MOST_LETTERS:
        raise TooMany("letters", len(spec.letters), MOST_LETTERS)
    if not spec.is_possible():
        raise Impossible()
    if spec.decide(test).fair:
        return ()
    return weakest(helping(spec, test))


def helping(spec, test):
    """The sentences of the menu that make a test fair, each with the closing that it makes."""
    found = []
    for sentence in menu(spec.letters):
        closing = spec.closing.followed(sentence)
        if not barred(closing, spec.limits) and decide(closing, spec.limits, test).fair:
            found.append((sentence, closing))
    return found


def weakest(found):
    """The sentences than which none is weaker; of those that follow from one another the first one."""
    kept = []
    for at, (sentence, closing) in enumerate(found):
        below = [place for place, (other, _) in enumerate(found) if follows(closing, other)]
        if not any([place < at or not follows(found[place][1], sentence) for place in below]):
            kept.append(sentence)
    return tuple(kept)
