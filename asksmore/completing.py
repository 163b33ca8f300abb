"""How the rules of a closed form are found, each with a row that shows why it holds.

A rule strikes a word of one or two letters down to a smaller word. Where two rules overlap, a word
can be struck in two ways; what both ways lead to is one, and gives a further rule. When no overlap
gives anything new, the order in which rules are used makes no difference any more.
"""

from heapq import heappop, heappush

from asksmore.sentences import Sentence
from asksmore.steps import turned


def sentence_of(letters, beginning, left, right):
    """The sentence that says that two words, the greater one first, are one."""
    if beginning == "new":
        return Sentence(letters, "still", left[0])
    if len(left) == 1:
        return Sentence(letters, "alike", left[0], right[0]) if right else Sentence(letters, "idle", left[0])
    if not right:
        return Sentence(letters, "undone", left[0], left[1])
    return Sentence(letters, "kept" if right[0] == left[0] else "over", left[0], left[1])


class Completion:
    """The rows and rules that were found, and the equations that wait to become rules."""

    def __init__(self, letters, told):
        self.letters = letters
        self.rows = []
        self.lengths = []
        # From the beginning and the left side of a rule to its right side and its row.
        self.rules = {}
        self.offers = []
        self.offered = 0
        for sentence in told:
            self.rows.append((sentence, ()))
            self.lengths.append(1)

    def offer_row(self, row):
        """Let the two sides of a row be an equation."""
        sentence = self.rows[row][0]
        left, right = sentence.left, sentence.right
        self.offer(left.beginning, left.word(), right.word(), ((row, 0, 1, 1),))

    def offer(self, beginning, first, last, steps):
        """Let an equation wait, struck as far as the rules go, unless they show that it holds."""
        first, before = self.reduced(beginning, first)
        last, behind = self.reduced(beginning, last)
        if first != last:
            steps = self.way_back(before) + steps + behind
            self.offers.append((self.length(steps), self.offered, beginning, first, last, steps))
            self.offered += 1

    def settle(self, equation):
        """Make a rule of an equation that waited, if the rules do not strike it further."""
        beginning, first, last, steps = equation[2:]
        if self.reduced(beginning, first)[1] or self.reduced(beginning, last)[1]:
            self.offer(beginning, first, last, steps)
        elif self.weight(first) > self.weight(last):
            self.adopt(beginning, first, last, steps)
        else:
            self.adopt(beginning, last, first, self.way_back(steps))

    def adopt(self, beginning, left, right, steps):
        """Take in a rule, and offer what it says together with the others."""
        sentence = sentence_of(self.letters, beginning, left, right)
        row = self.row_for(sentence, steps)
        self.rules[(beginning, left)] = (right, row)
        if len(left) == 2:
            self.overlap_pair(left)
        elif beginning == "new":
            for other in self.letters:
                self.overlap_still(left[0], other)
        else:
            self.retire(left[0])

    def row_for(self, sentence, steps):
        """The row of a new rule: a told row if the rule says just what is told there."""
        if len(steps) == 1:
            return steps[0][0]
        self.rows.append((sentence, steps))
        self.lengths.append(self.length(steps))
        return len(self.rows) - 1

    def retire(self, letter):
        """Take back all other rules that speak of a letter that is no longer live, and offer them anew."""
        for beginning, left in list(self.rules):
            right, row = self.rules[(beginning, left)]
            if (beginning, left) != ("found", (letter,)) and (letter in left or letter in right):
                del self.rules[(beginning, left)]
                self.offer_row(row)

    def overlap_pair(self, pair):
        """Offer what a rule for two letters says together with the rules that overlap it."""
        for other in self.letters:
            self.overlap(pair, (pair[1], other))
            self.overlap((other, pair[0]), pair)
        self.overlap_still(pair[0], pair[1])

    def overlap(self, one, other):
        """Offer what two rules say about three letters: the second one of `one` is the first of `other`."""
        if ("found", one) in self.rules and ("found", other) in self.rules:
            right, row = self.rules[("found", one)]
            further, next_row = self.rules[("found", other)]
            steps = ((row, 0, -1, 1), (next_row, 1, 1, 1))
            self.offer("found", right + other[1:], one[:1] + further, steps)

    def overlap_still(self, letter, other):
        """Offer what a still letter says together with the rule for it and another letter behind it."""
        if ("new", (letter,)) in self.rules and ("found", (letter, other)) in self.rules:
            row = self.rules[("new", (letter,))][1]
            right, next_row = self.rules[("found", (letter, other))]
            self.offer("new", (other,), right, ((row, 0, -1, 1), (next_row, 0, 1, 1)))

    def reduced(self, beginning, word):
        """A word struck by the rules as far as they go, and the steps that lead to it."""
        steps = []
        place = 0
        while place < len(word):
            found = self.rule_at(beginning, word, place)
            if found is None:
                place += 1
            else:
                size, right, row = found
                word = word[:place] + right + word[place + size:]
                steps.append((row, place, 1, 1))
                place = 0
        return word, tuple(steps)

    def rule_at(self, beginning, word, place):
        """The size of a left side that stands at a place, its right side and its row; or None."""
        for size in (1, 2):
            rule = self.rules.get(("found", word[place:place + size]))
            if rule is not None:
                return size, rule[0], rule[1]
        if beginning == "new" and place == 0:
            rule = self.rules.get(("new", word[:1]))
            if rule is not None:
                return 1, rule[0], rule[1]
        return None

    def weight(self, word):
        """What is struck goes to what weighs less."""
        return len(word), [self.letters.rank(letter) for letter in word]

    def length(self, steps):
        """How many changes by told sentences some steps stand for."""
        return sum([times * self.lengths[row] for row, place, way, times in steps])

    def way_back(self, steps):
        """The steps that lead back."""
        return turned([sentence.kind for sentence, below in self.rows], steps)


def completed(letters, told):
    """The completion of the told sentences."""
    work = Completion(letters, told)
    for row in range(len(told)):
        work.offer_row(row)
    # The equation with the shortest chain comes first, so that chains stay short. An item that is put into a
    # specification comes here, too, so the heap is this function's own.
    queue = []
    while work.offers or queue:
        for equation in work.offers:
            heappush(queue, equation)
        work.offers = []
        work.settle(heappop(queue))
    return work
