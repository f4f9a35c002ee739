"""The desk: rows of a text that make mills, have them step, keep them and tell of them."""

from rowmill.along import alike, along
from rowmill.errors import BadRow, NoCall, NoInputs, NoMemory, NoMill, NoName, NoPlace, NoText, NoWord
from rowmill.keeping import kept, woken
from rowmill.mill import Mill
from rowmill.parts import REASONS, calls_of
from rowmill.plain import inputs_of, is_memory_size
from rowmill.reading import is_name, number_of, read
from rowmill.words import is_word

MOST_STEPS = 200


class Desk:
    def __init__(self):
        self.rows = []
        self.cells = [0, 0, 0, 0]
        self.inputs = []
        self.calls = []
        self.mill = None
        # The memory and inputs that the mill began with.
        self.began = None
        self.laid_by = {}


def listed(things, between):
    if not things:
        return "none"
    return between.join([str(thing) for thing in things])


def add_row(desk, things):
    desk.rows.append(things[0])
    return "ok"


def set_cells(desk, things):
    if not is_memory_size(things[0]):
        raise NoMemory("a memory is 4 to 64 words, a number of them that 4 divides")
    desk.cells = [0 for number in range(things[0])]
    return "ok"


def set_cell(desk, things):
    if things[0] >= len(desk.cells):
        raise NoPlace("the memory hasn't this address")
    if not is_word(things[1]):
        raise NoWord("a word is a number from 0 to 65535")
    desk.cells[things[0]] = things[1]
    return "ok"


def add_inputs(desk, things):
    if not all([is_word(thing) for thing in things]):
        raise NoWord("a word is a number from 0 to 65535")
    desk.inputs = inputs_of(desk.inputs + things)
    return "ok"


def add_call(desk, things):
    desk.calls = calls_of(desk.calls + [things])
    return "ok"


def make_mill(desk, things):
    program = read("\n".join(desk.rows))
    desk.mill = Mill(program, desk.cells, desk.inputs, desk.calls)
    desk.began = (tuple(desk.cells), tuple(desk.inputs))
    return "ok"


def do_steps(desk, things):
    return str(desk.mill.run(things[0]))


def tell_boxes(desk, things):
    return listed(desk.mill.told()[0], " ")


def tell_word(desk, things):
    cells = desk.mill.memory()
    if things[0] >= len(cells):
        raise NoPlace("the memory hasn't this address")
    return str(cells[things[0]])


def tell_said(desk, things):
    return listed(desk.mill.told()[5], " ")


def tell_end(desk, things):
    end = desk.mill.told()[7]
    if end == "":
        return "on"
    return end


def tell_log(desk, things):
    return listed([listed(row, " ") for row in desk.mill.log()], "; ")


def tell_gaps(desk, things):
    gaps = desk.mill.gaps()
    return listed([listed((reason, gaps[reason]), " ") for reason in REASONS if gaps[reason] > 0], ", ")


def tell_steps(desk, things):
    return str(desk.mill.steps())


def keep_mill(desk, things):
    desk.laid_by[things[0]] = (kept(desk.mill), desk.began)
    return "ok"


def wake_mill(desk, things):
    laid = desk.laid_by.get(things[0])
    if laid is None:
        raise NoName("nothing is kept under this name")
    desk.mill = woken(laid[0])
    desk.began = laid[1]
    return "ok"


def tell_plain(desk, things):
    plain = along(desk.mill.program, desk.began[0], desk.began[1], desk.mill.log())
    if alike(plain, desk.mill):
        return "alike"
    return "unlike"


DOINGS = {
    "row": add_row, "cells": set_cells, "cell": set_cell, "input": add_inputs, "call": add_call, "mill": make_mill,
    "step": do_steps, "boxes": tell_boxes, "look": tell_word, "said": tell_said, "end": tell_end, "log": tell_log,
    "gaps": tell_gaps, "steps": tell_steps, "keep": keep_mill, "wake": wake_mill, "plain": tell_plain,
}

# What stands behind the first word, a letter each: a number n, a number of steps s, a name k.
FORMS = {
    "cells": "n", "cell": "nn", "call": "nn", "mill": "", "step": "s", "boxes": "", "look": "n", "said": "", "end": "",
    "log": "", "gaps": "", "steps": "", "keep": "k", "wake": "k", "plain": "",
}
OF_A_MILL = ("step", "boxes", "look", "said", "end", "log", "gaps", "steps", "keep", "plain")


# None of a word that can't stand there.
def thing_of(letter, word):
    if letter == "k":
        return word if is_name(word) else None
    number = number_of(word)
    if letter == "s" and number is not None and number > MOST_STEPS:
        return None
    return number


def form_of(words):
    if words[0] == "input":
        return "n" * max(len(words) - 1, 1)
    return FORMS.get(words[0])


def things_of(row, words):
    if words[0] == "row":
        if len(words) == 1:
            raise BadRow("too few words")
        return [row.lstrip(" ").partition(" ")[2]]
    form = form_of(words)
    if form is None or len(words) != len(form) + 1:
        raise BadRow("there is no such row, or it has too few or too many words")
    things = [thing_of(letter, word) for letter, word in zip(form, words[1:])]
    if None in things:
        raise BadRow("a word is no number or name")
    return things


def done_row(desk, row, words):
    things = things_of(row, words)
    if words[0] in OF_A_MILL and desk.mill is None:
        raise NoMill("there is no mill")
    return DOINGS[words[0]](desk, things)


def answer_to(desk, row, words):
    try:
        return done_row(desk, row, words)
    except BadRow:
        return "refused: BadRow"
    except NoMill:
        return "refused: NoMill"
    except NoName:
        return "refused: NoName"
    except NoText:
        return "refused: NoText"
    except NoMemory:
        return "refused: NoMemory"
    except NoPlace:
        return "refused: NoPlace"
    except NoWord:
        return "refused: NoWord"
    except NoInputs:
        return "refused: NoInputs"
    except NoCall:
        return "refused: NoCall"


def answered(text):
    desk = Desk()
    answers = []
    for row in text.split("\n"):
        words = [word for word in row.split(" ") if word != ""]
        if words:
            answers.append(answer_to(desk, row, words))
    return answers
