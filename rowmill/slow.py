"""The slow memory, told and put by lines of four words."""

from rowmill.errors import NoLine
from rowmill.words import is_within


class Slow:
    def __init__(self, words):
        self.cells = list(words)
        self.lines_told = 0
        self.lines_put = 0

    def refuse_no_line(self, k):
        if not is_within(k, 0, len(self.cells) // 4 - 1):
            raise NoLine("there is no such line")

    def four(self, k):
        self.refuse_no_line(k)
        self.lines_told = self.lines_told + 1
        return tuple(self.cells[4 * k:4 * k + 4])

    def put_four(self, k, words):
        self.refuse_no_line(k)
        self.lines_put = self.lines_put + 1
        for offset, word in enumerate(words):
            self.cells[4 * k + offset] = word

    # A single word, told without asking for its line.
    def word_at(self, address):
        return self.cells[address]

    def reads(self):
        return self.lines_told

    def writes(self):
        return self.lines_put

    def whole(self):
        return list(self.cells)

    def size(self):
        return len(self.cells)
