"""Answerers by struck forms: programs that keep all sentences of a closing."""

from asksmore.allowed import all_tops, ended_with
from asksmore.errors import BadAnswers, BadPlace, BadSpecial, BadTop, TooMany
from asksmore.histories import History
from asksmore.letters import BEGINNINGS, require_same
from asksmore.sentences import Sentence, is_answer
from asksmore.sorts import Sort, struck_words
from asksmore.strikes import follows, struck

MOST_SPECIAL = 10
MOST_SPECIAL_RUNS = 300
MOST_SHOWN = 2000


def told_tops(closing, tops):
    """The answers of the tops alone, in the order of the tops."""
    for top in all_tops(closing):
        if top not in tops or not is_answer(tops[top]):
            raise BadTop(top)
    return {top: tops[top] for top in all_tops(closing)}


def told_special(closing, special):
    """The pairs of a struck form and its answer."""
    if len(special) > MOST_SPECIAL:
        raise TooMany("special", len(special), MOST_SPECIAL)
    kept = []
    for index, (history, answer) in enumerate(special):
        form = struck(closing, history)
        if not is_answer(answer):
            raise BadAnswers(0)
        if len(form.runs) > MOST_SPECIAL_RUNS or form in [other for other, _ in kept]:
            raise BadSpecial(index)
        kept.append((form, answer))
    return tuple(kept)


def forms_with(closing, top, many):
    """The first struck forms with a top, as many as asked for from each beginning, if there are so many."""
    if top in BEGINNINGS:
        return [History(closing.letters, top)]
    found = []
    for beginning in BEGINNINGS:
        forms = struck_words(closing, beginning) & Sort.ending(closing.letters, top)
        for place in range(many):
            try:
                found.append(History.spelled(closing.letters, beginning, forms[place]))
            except BadPlace:
                break
    return found


class Answerer:
    """An answerer whose states are the struck forms."""

    def __init__(self, closing, tops, special=()):
        self.closing = closing
        self.tops = told_tops(closing, tops)
        self.special = told_special(closing, special)

    def __call__(self, history):
        return self.answer_of(struck(self.closing, history))

    def answer_of(self, form):
        """The answer of a state."""
        for other, answer in self.special:
            if other == form:
                return answer
        return self.tops[form.last]

    def state(self, history):
        """The state after a history: its struck form."""
        return struck(self.closing, history)

    def breaks(self, sentence):
        """A history at which the answerer does not keep a sentence, or None."""
        require_same(self.closing.letters, sentence.letters)
        if isinstance(sentence, Sentence):
            if follows(self.closing, sentence):
                return None
            return History(sentence.letters, sentence.left.beginning)
        wrong = self.wrong_at(sentence)
        # A shorter history is shown where there is one.
        ordered = [history for history in wrong if history.size <= MOST_SHOWN] + wrong
        return ordered[0] if ordered else None

    def wrong_at(self, limit):
        """Histories of which a limit speaks and after which the answer is none of its words.

        A short one is among them, if there is a short one at all.
        """
        if limit.kind == "fresh":
            spoken = [History(limit.letters, "new")]
        else:
            wrong = [top for top in self.tops if self.tops[top] not in limit.answers]
            spoken = [form for form, answer in self.special]
            # At least one more than there are special ones, so that one that is not special is among them.
            spoken = spoken + [form for top in wrong for form in forms_with(self.closing, top, MOST_SPECIAL + 1)]
        wrong_forms = [form for form in spoken if self.answer_of(form) not in limit.answers]
        if limit.kind != "behind":
            return wrong_forms
        ended = [ended_with(self.closing, form, limit.letter) for form in wrong_forms]
        return [history for history in ended if history is not None]
