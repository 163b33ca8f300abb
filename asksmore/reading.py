"""Lines of texts, read word by word."""

from asksmore.errors import BadText


class LineReader:
    """The words of a line, of which some are taken already."""

    def __init__(self, line, number):
        self.parts = line.split(" ")
        self.number = number
        self.taken = 0

    def ahead(self):
        """The next word; None at the end of the line."""
        return self.parts[self.taken] if self.taken < len(self.parts) else None

    def refuse(self):
        """Refuse the next word, or that there is none."""
        raise BadText(self.number, self.taken + 1)

    def take(self, is_right):
        """Take the next word, if it is right."""
        word = self.ahead()
        if word is None or not is_right(word):
            self.refuse()
        self.taken += 1
        return word

    def take_one_of(self, words):
        """Take the next word, if it is one of these."""
        return self.take(lambda word: word in words)

    def finish(self):
        """Refuse a word behind the end."""
        if self.ahead() is not None:
            self.refuse()
