"""How the rules of a closed form are found, each with a row that shows why it holds.

A rule strikes a word of one or two letters down to a smaller word. Where two rules overlap, a word
can be struck in two ways; what both ways lead to is one, and gives a further rule. When no overlap
gives anything new, the order in which rules are used makes no difference any more.

Told sentences become rules first, in their order, and what they say together waits meanwhile: so a
sentence that is told later begins where the earlier ones have ended. Then what waits is settled, the
equation with the shortest chain first, so that chains stay short.

In place of a letter stands its rank, so that words are compared as they are.
"""

from heapq import heappop, heappush

from asksmore.sentences import LONE_KINDS, Sentence


def sides_of(kind, x, y):
    """The words of the two sides of a sentence; the left one is the greater one."""
    if kind in LONE_KINDS:
        return (x,), ()
    if kind == "alike":
        return (x,), (y,)
    if kind == "undone":
        return (x, y), ()
    return (x, y), (x,) if kind == "kept" else (y,)


def kind_between(beginning, left, right):
    """The kind of the sentence with these sides."""
    if beginning == "new":
        return "still"
    if len(left) == 1:
        return "alike" if right else "idle"
    if not right:
        return "undone"
    return "kept" if right[0] == left[0] else "over"


def way_back(steps):
    """The steps that lead back; each step is one change."""
    return tuple([(row, place, -way, 1) for row, place, way, _ in steps[::-1]])


def steps_between(x, z, one, other):
    """The steps between what x y z is struck to by two rules: one is for x y, the other one for y z."""
    back = ((one[1], 0, -1, 1),)
    if one[0] and one[0] != (x,):
        back = ((other[1], 0, -1, 1), *back)
    ahead = ((other[1], 1, 1, 1),)
    if other[0] and other[0] != (z,):
        ahead = (*ahead, (one[1], 0, 1, 1))
    return back + ahead


class Completion:
    """The rows and rules that were found, and the equations that wait to become rules."""

    def __init__(self, letters):
        self.letters = letters
        self.ranks = {letter: rank for rank, letter in enumerate(letters.words)}
        self.many = len(letters.words)
        self.rows = []
        self.lengths = []
        # A rule is a right side and a row: for a letter, for a letter behind the beginning new, for a pair of letters.
        self.lone = [None] * self.many
        self.still = [None] * self.many
        self.pairs = [None] * (self.many * self.many)
        # From a beginning and two words, the greater one first, to a length, a number and the steps.
        self.waiting = {}
        # The lengths, numbers and equations that have begun to wait since they were last looked at.
        self.fresh = []
        self.offered = 0

    def copy(self):
        """Another completion that has come as far."""
        other = Completion(self.letters)
        other.rows, other.lengths = list(self.rows), list(self.lengths)
        other.lone, other.still, other.pairs = list(self.lone), list(self.still), list(self.pairs)
        other.waiting = {key: self.waiting[key] for key in self.waiting}
        other.offered = self.offered
        return other

    def take(self, sentence):
        """Take in one more told sentence; this is done before anything is settled."""
        self.rows.append((sentence, ()))
        self.lengths.append(1)
        equation = self.equation_of(len(self.rows) - 1)
        self.consider(*equation)
        self.fresh = []

    def equation_of(self, row):
        """A row as an equation: the beginning, the two sides, and the steps."""
        sentence = self.rows[row][0]
        second = None if sentence.second is None else self.ranks[sentence.second]
        left, right = sides_of(sentence.kind, self.ranks[sentence.first], second)
        return "new" if sentence.kind == "still" else "found", left, right, ((row, 0, 1, 1),)

    def consider(self, beginning, left, right, steps):
        """Make a rule of an equation, the greater word first, if the rules do not strike it further."""
        if self.is_struck(beginning, left) and self.is_struck(beginning, right):
            self.adopt(beginning, left, right, steps)
        else:
            self.offer(beginning, left, right, steps)

    def offer(self, beginning, first, last, steps):
        """Let an equation wait, struck as far as the rules go, unless they show that it holds."""
        first, before = self.reduced(beginning, first)
        last, behind = self.reduced(beginning, last)
        if first != last:
            self.wait(beginning, first, last, way_back(before) + steps + behind)

    def wait(self, beginning, first, last, steps):
        """Let an equation of two struck words wait, unless it waits already with a chain that is not longer."""
        # What is struck goes to what is smaller in the order of words.
        if (len(first), first) < (len(last), last):
            first, last, steps = last, first, way_back(steps)
        key = (beginning, first, last)
        length = self.length(steps)
        if key not in self.waiting or length < self.waiting[key][0]:
            self.waiting[key] = (length, self.offered, steps)
            self.fresh.append((length, self.offered, key))
            self.offered += 1

    def adopt(self, beginning, left, right, steps):
        """Take in a rule, and offer what it says together with the others."""
        rule = (right, self.row_for(beginning, left, right, steps))
        if (beginning, left, right) in self.waiting:
            del self.waiting[beginning, left, right]
        if len(left) == 2:
            self.pairs[left[0] * self.many + left[1]] = rule
            self.overlap_pair(left[0], left[1])
        elif beginning == "new":
            self.still[left[0]] = rule
            for other in range(self.many):
                self.overlap_still(left[0], other)
        else:
            self.lone[left[0]] = rule
            self.retire(left[0])

    def row_for(self, beginning, left, right, steps):
        """The row of a new rule: a told row if the rule says just what is told there."""
        if len(steps) == 1:
            return steps[0][0]
        words = [self.letters.words[rank] for rank in left + right]
        kind = kind_between(beginning, left, right)
        second = None if kind in LONE_KINDS else words[1]
        self.rows.append((Sentence(self.letters, kind, words[0], second), steps))
        self.lengths.append(self.length(steps))
        return len(self.rows) - 1

    def retire(self, letter):
        """Take back all other rules that speak of a letter that is no longer live, and offer them anew."""
        many = self.many
        rows = self.taken_back(self.still, [letter])
        rows.extend(self.taken_back(self.lone, [other for other in range(many) if self.is_least_of(letter, other)]))
        rows.extend(self.taken_back(self.pairs, [letter * many + other for other in range(many)]))
        rows.extend(self.taken_back(self.pairs, [other * many + letter for other in range(many)]))
        for row in sorted(rows):
            equation = self.equation_of(row)
            self.offer(*equation)

    def is_least_of(self, letter, other):
        """Whether a rule strikes another letter to this one."""
        return self.lone[other] is not None and self.lone[other][0] == (letter,)

    def taken_back(self, rules, places):
        """Take back the rules at these places; their rows."""
        rows = []
        for place in places:
            if rules[place] is not None:
                rows.append(rules[place][1])
                rules[place] = None
        return rows

    def overlap_pair(self, x, y):
        """Offer what the rule for two letters says together with the rules that overlap it."""
        rule = self.pairs[x * self.many + y]
        for z in range(self.many):
            behind = self.pairs[y * self.many + z]
            if behind is not None:
                self.overlap(x, y, z, rule, behind)
            ahead = self.pairs[z * self.many + x]
            if ahead is not None:
                self.overlap(z, x, y, ahead, rule)
        self.overlap_still(x, y)

    def overlap(self, x, y, z, one, other):
        """Offer what the rules for x y and y z say together about x y z, unless it is seen at once that it holds."""
        here, there = one[0], other[0]
        # What x y z is struck to, also by the other rule: where the first one is used first, and the last one.
        first = (x, z) if here == (x,) else there if here else (z,)
        last = (x, z) if there == (z,) else here if there else (x,)
        if first == last:
            return
        known = self.pairs[x * self.many + z] if (x, z) in (first, last) else None
        if known is None:
            self.wait("found", first, last, steps_between(x, z, one, other))
        elif known[0] not in (first, last):
            self.offer("found", first, last, steps_between(x, z, one, other))

    def overlap_still(self, letter, other):
        """Offer what a still letter says together with the rule for it and another letter behind it."""
        still, pair = self.still[letter], self.pairs[letter * self.many + other]
        if still is not None and pair is not None:
            self.offer("new", (other,), pair[0], ((still[1], 0, -1, 1), (pair[1], 0, 1, 1)))

    def is_struck(self, beginning, word):
        """Whether the rules do not strike a word of at most two letters."""
        if beginning == "new" and word and self.still[word[0]] is not None:
            return False
        if len(word) == 2 and self.pairs[word[0] * self.many + word[1]] is not None:
            return False
        return all([self.lone[letter] is None for letter in word])

    def reduced(self, beginning, word):
        """A word struck by the rules as far as they go, and the steps that lead to it."""
        steps = []
        place = 0
        while place < len(word):
            size, rule = self.rule_at(beginning, word, place)
            if rule is None:
                place += 1
            else:
                word = word[:place] + rule[0] + word[place + size:]
                steps.append((rule[1], place, 1, 1))
                place = 0
        return word, tuple(steps)

    def rule_at(self, beginning, word, place):
        """The size of a left side that stands at a place, and its rule; or None as the rule."""
        letter = word[place]
        if self.lone[letter] is not None:
            return 1, self.lone[letter]
        if place + 1 < len(word):
            rule = self.pairs[letter * self.many + word[place + 1]]
            if rule is not None:
                return 2, rule
        return 1, self.still[letter] if beginning == "new" and place == 0 else None

    def length(self, steps):
        """How many changes by told sentences some steps, each of one change, stand for."""
        return sum([self.lengths[step[0]] for step in steps])


def completed(begun):
    """The completion of what was begun by taking in told sentences, which stays as it is."""
    if not begun.waiting:
        return begun
    work = begun.copy()
    # An item that is put into a specification comes here, too, so the heap is this function's own.
    queue = sorted([(work.waiting[key][0], work.waiting[key][1], key) for key in work.waiting])
    while queue:
        _, number, equation = heappop(queue)
        # A shorter chain for the same equation may have come since.
        if equation in work.waiting and work.waiting[equation][1] == number:
            steps = work.waiting[equation][2]
            del work.waiting[equation]
            work.consider(*equation, steps)
            for later in work.fresh:
                heappush(queue, later)
            work.fresh = []
    return work
