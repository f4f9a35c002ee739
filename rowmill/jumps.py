"""The rows that go to a place other than the one behind their own."""

from rowmill.rows import Row, given_box
from rowmill.words import as_word


class Jump(Row):
    def __init__(self, n):
        self.n = n

    def told(self):
        return ("jump", self.n)

    def goal(self, words, place):
        return self.n


class Zero(Row):
    def __init__(self, a, n):
        self.a = a
        self.n = n

    def told(self):
        return ("zero", self.a, self.n)

    def reads(self):
        return (self.a,)

    def goal(self, words, place):
        if words[0] == 0:
            return self.n
        return place + 1


class Link(Row):
    def __init__(self, a, n):
        self.a = a
        self.n = n

    def told(self):
        return ("link", self.a, self.n)

    def gives(self):
        return given_box(self.a)

    def reckoned(self, words, place):
        # A box holds a word, so the place is kept by its rest too.
        return as_word(place + 1)

    def goal(self, words, place):
        return self.n


class Go(Row):
    def __init__(self, a):
        self.a = a

    def told(self):
        return ("go", self.a)

    def reads(self):
        return (self.a,)

    def goal(self, words, place):
        return words[0]
