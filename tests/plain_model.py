"""The plain machine written once more, straight from its rows' texts, for the tests to hold the program against."""

from rowmill.writing import row_text

PAIRS = {
    "add": lambda b, c: (b + c) % 65536, "sub": lambda b, c: (b - c) % 65536, "mul": lambda b, c: b * c % 65536,
    "div": lambda b, c: b // c, "rest": lambda b, c: b % c, "and": lambda b, c: b & c, "or": lambda b, c: b | c,
    "xor": lambda b, c: b ^ c, "up": lambda b, c: b * 2 ** (c % 16) % 65536, "down": lambda b, c: b // 2 ** (c % 16),
    "low": lambda b, c: int(b < c), "same": lambda b, c: int(b == c),
}


class Fault(Exception):
    pass


class Model:
    def __init__(self, program, memory, inputs=()):
        self.program = program
        self.cells = dict(enumerate(memory))
        self.left = list(inputs or ())
        self.boxes = [0] * 8
        self.place = self.cause = self.back = 0
        self.inside = False
        self.said = []
        self.end = ""
        self.log = []

    def told(self):
        return (tuple(self.boxes), self.place, self.inside, self.cause, self.back, tuple(self.said), tuple(self.left),
                self.end)

    def memory(self):
        return [self.cells[address] for address in range(len(self.cells))]

    def step(self):
        place = self.place
        try:
            self.do(place)
            answer = ("done", place)
        except Fault as fault:
            cause = fault.args[0]
            answer = ("fault", place, cause)
            if self.program.hall is None or self.inside:
                self.end = "lost"
            else:
                self.inside, self.cause, self.back, self.place = True, cause, place, self.program.hall
        self.log.append(answer)
        return answer

    def call(self, number):
        place = self.place
        self.inside, self.cause, self.back, self.place = True, 16 + number, place, self.program.hall
        self.log.append(("call", number, place))

    def may_be_called(self):
        return self.end == "" and self.program.hall is not None and not self.inside

    def address(self, b, n):
        address = (self.boxes[b] + n) % 65536
        if address not in self.cells:
            raise Fault(4)
        return address

    def put(self, box, word):
        if box != 0:
            self.boxes[box] = word

    def do(self, place):
        if place >= len(self.program.codes):
            raise Fault(1)
        row = self.program.row_at(place)
        if row is None:
            raise Fault(2)
        word, *rest = row_text(row).split()
        things = [int(thing.replace("r", "")) for thing in rest]
        self.place = place
        goal = self.effect(word, things, place)
        self.place = place + 1 if goal is None else goal

    def effect(self, word, things, place):
        if word in PAIRS:
            a, b, c = things
            if word in ("div", "rest") and self.boxes[c] == 0:
                raise Fault(3)
            return self.put(a, PAIRS[word](self.boxes[b], self.boxes[c]))
        return getattr(self, "do_" + word)(place, *things)

    def do_stop(self, place):
        self.end = "stop"
        return place

    def do_num(self, place, a, n):
        self.put(a, n)

    def do_plus(self, place, a, b, n):
        self.put(a, (self.boxes[b] + n) % 65536)

    def do_load(self, place, a, b, n):
        self.put(a, self.cells[self.address(b, n)])

    def do_store(self, place, a, b, n):
        self.cells[self.address(b, n)] = self.boxes[a]

    def do_jump(self, place, n):
        return n

    def do_zero(self, place, a, n):
        return n if self.boxes[a] == 0 else None

    def do_link(self, place, a, n):
        self.put(a, place + 1)
        return n

    def do_go(self, place, a):
        return self.boxes[a]

    def do_ask(self, place, a):
        if not self.left:
            raise Fault(5)
        self.put(a, self.left.pop(0))

    def do_tell(self, place, a):
        self.said.append(self.boxes[a])

    def do_why(self, place, a):
        self.put(a, self.cause)

    def do_where(self, place, a):
        self.put(a, self.back)

    def do_aim(self, place, a):
        self.back = self.boxes[a]

    def do_home(self, place):
        if not self.inside:
            raise Fault(2)
        self.inside = False
        return self.back
