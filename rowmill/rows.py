"""What all rows have alike, and the rows that reckon, load and store."""

from rowmill.words import as_word, paired

LONG = {"mul": 3, "div": 5, "rest": 5}


def given_box(box):
    # What is given to box 0 is lost, so it counts as given to none.
    if box == 0:
        return None
    return box


def known_at(station, box):
    if box is None:
        return None
    return station


# Its answers are those of a row that reads, gives and reckons nothing
# and goes on to the row behind it; each row says only where it differs.
class Row:
    def told(self):
        return None

    def reads(self):
        return ()

    def gives(self):
        return None

    def known(self):
        return known_at("reckon", self.gives())

    def alone(self):
        return False

    def long(self):
        return 1

    def reckoned(self, words, place):
        return 0

    def goal(self, words, place):
        return place + 1


class Stop(Row):
    def told(self):
        return ("stop",)


class Num(Row):
    def __init__(self, a, n):
        self.a = a
        self.n = n

    def told(self):
        return ("num", self.a, self.n)

    def gives(self):
        return given_box(self.a)

    def reckoned(self, words, place):
        return self.n


class Plus(Row):
    def __init__(self, a, b, n):
        self.a = a
        self.b = b
        self.n = n

    def told(self):
        return ("plus", self.a, self.b, self.n)

    def reads(self):
        return (self.b,)

    def gives(self):
        return given_box(self.a)

    def reckoned(self, words, place):
        return as_word(words[0] + self.n)


class Pair(Row):
    def __init__(self, word, a, b, c):
        self.word = word
        self.a = a
        self.b = b
        self.c = c

    def told(self):
        return (self.word, self.a, self.b, self.c)

    def reads(self):
        return (self.b, self.c)

    def gives(self):
        return given_box(self.a)

    def long(self):
        return LONG.get(self.word, 1)

    def reckoned(self, words, place):
        return paired(self.word, words[0], words[1])


class Load(Row):
    def __init__(self, a, b, n):
        self.a = a
        self.b = b
        self.n = n

    def told(self):
        return ("load", self.a, self.b, self.n)

    def reads(self):
        return (self.b,)

    def gives(self):
        return given_box(self.a)

    def known(self):
        return known_at("memory", self.gives())

    def reckoned(self, words, place):
        return as_word(words[0] + self.n)


class Store(Row):
    def __init__(self, a, b, n):
        self.a = a
        self.b = b
        self.n = n

    def told(self):
        return ("store", self.a, self.b, self.n)

    def reads(self):
        return (self.a, self.b)

    def reckoned(self, words, place):
        return as_word(words[1] + self.n)
