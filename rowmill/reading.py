"""Texts read to programs."""

from rowmill.codes import FORMS, code_of, row_made
from rowmill.errors import NoText
from rowmill.programs import LAST_CODE, LAST_GOAL, MOST_CODES, Program

FIGURES = "0123456789"
LETTERS = "abcdefghijklmnopqrstuvwxyz"
BOXES = ("r0", "r1", "r2", "r3", "r4", "r5", "r6", "r7")


def is_figures(word):
    return word != "" and word.strip(FIGURES) == ""


def is_name(word):
    return 1 <= len(word) <= 8 and word.strip(LETTERS) == ""


def number_of(word):
    if not is_figures(word) or len(word) > 8:
        return None
    return int(word)


def number_within(word, high):
    number = number_of(word)
    if number is None or number > high:
        return None
    return number


def signed_number(word):
    if not word.startswith("-"):
        return number_within(word, 511)
    number = number_within(word[1:], 512)
    if number is None:
        return None
    return -number


def goal_of(word):
    if is_name(word):
        return word
    return number_within(word, LAST_GOAL)


def box_of(word):
    if word in BOXES:
        return BOXES.index(word)
    return None


# Of a word that can't stand there None; of a label its name, whose place may still be to come.
def thing_of(letter, word):
    if letter in "abc":
        return box_of(word)
    if letter == "s":
        return signed_number(word)
    if letter == "g":
        return goal_of(word)
    return number_within(word, LAST_GOAL)


def words_of(row):
    ahead = row.partition(";")[0]
    return [word for word in ahead.split(" ") if word != ""]


def things_of(words):
    if words[0] == "code":
        if len(words) != 2:
            return None
        things = [number_within(words[1], LAST_CODE)]
    else:
        form = FORMS.get(words[0])
        if form is None or len(words) != len(form) + 1:
            return None
        things = [thing_of(letter, word) for letter, word in zip(form, words[1:])]
    if None in things:
        return None
    return things


def code_made(word, things):
    if word == "code":
        return things[0]
    return code_of(row_made(word, things))


# What the rows of a text have said so far; each of its methods that takes a row tells whether the row can stand.
class Reader:
    def __init__(self):
        self.labels = {}
        self.rows = []
        self.halls = []

    def take(self, at, words):
        if len(words) == 1 and words[0].endswith(":"):
            return self.take_label(words[0][:-1])
        if words[0] == "hall":
            return self.take_hall(at, words)
        return self.take_code(at, words)

    def take_label(self, name):
        if not is_name(name) or name in self.labels:
            return False
        self.labels[name] = len(self.rows)
        return True

    def take_hall(self, at, words):
        if len(words) != 2 or self.halls:
            return False
        goal = goal_of(words[1])
        if goal is None:
            return False
        self.halls.append((at, "hall", [goal]))
        return True

    def take_code(self, at, words):
        things = things_of(words)
        if things is None or len(self.rows) == MOST_CODES:
            return False
        self.rows.append((at, words[0], things))
        return True

    # The rows by their numbers, hall among them: the first that names no label is to be told.
    def refuse_lost_labels(self):
        lost = [row[0] for row in self.halls + self.rows if not self.are_placed(row[2])]
        if lost:
            raise NoText(min(lost))

    def are_placed(self, things):
        return all([not isinstance(thing, str) or thing in self.labels for thing in things])

    def placed(self, things):
        return [self.labels[thing] if isinstance(thing, str) else thing for thing in things]

    def made_program(self):
        self.refuse_lost_labels()
        codes = [code_made(row[1], self.placed(row[2])) for row in self.rows]
        hall = None
        if self.halls:
            hall = self.placed(self.halls[0][2])[0]
        return Program(codes, hall)


def read(text):
    reader = Reader()
    for at, row in enumerate(text.split("\n")):
        words = words_of(row)
        if words and not reader.take(at, words):
            raise NoText(at)
    return reader.made_program()
