"""The plain machine: one row after the other; and what a machine's rows do, which the mill does likewise."""

from rowmill.errors import NoCall, NoInputs, NoMemory, NoStep, Shut
from rowmill.others import Aim, Ask, Home, Tell, Where, Why
from rowmill.rows import Load, Pair, Stop, Store
from rowmill.words import is_listed, is_within, is_word

FORM = 2
NOUGHT = 3
BEYOND = 4
DRY = 5
CALLED = 16
LAST_CALL = 15
MOST_INPUTS = 60

# For each kind of row of a log, how many numbers it tells.
LOG_NUMBERS = {"done": 1, "fault": 2, "call": 2}


def are_words(things):
    return is_listed(things) and all([is_word(thing) for thing in things])


def is_memory_size(many):
    return 4 <= many <= 64 and many % 4 == 0


def memory_of(memory):
    if not are_words(memory) or not is_memory_size(len(memory)):
        raise NoMemory("a memory is 4 to 64 words, a number of them that 4 divides")
    return list(memory)


def inputs_of(inputs):
    if inputs is None:
        return []
    if not are_words(inputs) or len(inputs) > MOST_INPUTS:
        raise NoInputs("inputs are at most 60 words")
    return list(inputs)


def is_call_number(thing):
    return is_within(thing, 0, LAST_CALL)


# The boxes, flags and all else of a machine but its memory and its place.
class State:
    def __init__(self, inputs):
        self.boxes = [0, 0, 0, 0, 0, 0, 0, 0]
        self.inside = False
        self.cause = 0
        self.back = 0
        self.said = []
        self.left = list(inputs)
        self.end = ""

    def refuse_ended(self):
        if self.end != "":
            raise NoStep("the run has ended")

    def enter(self, cause, back):
        self.inside = True
        self.cause = cause
        self.back = back

    def is_open(self, hall):
        return hall is not None and not self.inside

    # Tells the place to which the fault goes.
    def fall(self, cause, place, hall):
        if not self.is_open(hall):
            self.end = "lost"
            return place
        self.enter(cause, place)
        return hall

    # The faults that only what the rows ahead left behind can tell.
    def late_fault(self, row):
        if isinstance(row, Home) and not self.inside:
            return FORM
        if isinstance(row, Ask) and not self.left:
            return DRY
        return 0

    def given(self, row, value):
        if isinstance(row, Ask):
            return self.left.pop(0)
        if isinstance(row, Why):
            return self.cause
        if isinstance(row, Where):
            return self.back
        return value

    def do(self, row, words, value):
        word = self.given(row, value)
        if row.gives() is not None:
            self.boxes[row.gives()] = word
        if isinstance(row, Tell):
            self.said.append(words[0])
        if isinstance(row, Aim):
            self.back = words[0]
        if isinstance(row, Home):
            self.inside = False
        if isinstance(row, Stop):
            self.end = "stop"

    # The place to which a row goes once it is done, where its goal doesn't tell it.
    def turn_of(self, row, place):
        if isinstance(row, Home):
            return self.back
        if isinstance(row, Stop):
            return place
        return None

    def told(self, place):
        said = tuple(self.said)
        left = tuple(self.left)
        return (tuple(self.boxes), place, self.inside, self.cause, self.back, said, left, self.end)


def ran(machine, most):
    steps = 0
    while steps < most and machine.state.end == "":
        machine.step()
        steps = steps + 1
    return steps


class Plain:
    def __init__(self, program, memory, inputs=None):
        self.program = program
        self.cells = memory_of(memory)
        self.state = State(inputs_of(inputs))
        self.place = 0
        self.answers = []

    def step(self):
        self.state.refuse_ended()
        place = self.place
        row = self.program.row_at(place)
        if row is None:
            return self.fall(self.program.cause_at(place))
        words = tuple([self.state.boxes[box] for box in row.reads()])
        fault = self.fault_of(row, words)
        if fault != 0:
            return self.fall(fault)
        self.do(row, words)
        return self.noted(("done", place))

    def fault_of(self, row, words):
        number = row.reckoned(words, self.place)
        if isinstance(row, Pair) and number is None:
            return NOUGHT
        if isinstance(row, (Load, Store)) and number >= len(self.cells):
            return BEYOND
        return self.state.late_fault(row)

    def fall(self, cause):
        place = self.place
        self.place = self.state.fall(cause, place, self.program.hall)
        return self.noted(("fault", place, cause))

    def do(self, row, words):
        place = self.place
        value = row.reckoned(words, place)
        if isinstance(row, Store):
            self.cells[value] = words[0]
        if isinstance(row, Load):
            value = self.cells[value]
        self.state.do(row, words, value)
        turn = self.state.turn_of(row, place)
        self.place = row.goal(words, place) if turn is None else turn

    def noted(self, answer):
        self.answers.append(answer)
        return answer

    def call(self, number):
        if not is_call_number(number):
            raise NoCall("a call is a number from 0 to 15")
        self.state.refuse_ended()
        if not self.state.is_open(self.program.hall):
            raise Shut("there is no hall, or it is inside")
        place = self.place
        self.state.enter(CALLED + number, place)
        self.place = self.program.hall
        return self.noted(("call", number, place))

    def run(self, most):
        return ran(self, most)

    def log(self):
        return list(self.answers)

    def told(self):
        return self.state.told(self.place)

    def memory(self):
        return list(self.cells)
