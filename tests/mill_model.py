"""The mill written once more, by its points in turn and over what rows tell, for the tests to hold the program against."""

from rowmill.guesses import Guesses
from rowmill.near import Near
from rowmill.slow import Slow
from tests.plain_model import PAIRS, Model

GIVING = ("num", "plus", "load", "link", "ask", "why", "where") + tuple(PAIRS)
LATE = ("load", "ask", "why", "where")
ALONE = ("why", "where", "aim", "home")
LONG = {"mul": 3, "div": 5, "rest": 5}
JUMPS = ("jump", "zero", "link", "go")


def read_boxes(row):
    word = row[0]
    if word in PAIRS:
        return row[2:]
    if word in ("plus", "load"):
        return row[2:3]
    if word == "store":
        return row[1:3]
    return row[1:2] if word in ("zero", "go", "tell", "aim") else ()


def box_given(flight):
    row = flight["row"]
    return row[1] if flight["fault"] == 0 and row[0] in GIVING and row[1] != 0 else None


def reckoned(row, words, place):
    word = row[0]
    if word in PAIRS:
        return None if word in ("div", "rest") and words[1] == 0 else PAIRS[word](*words)
    if word in ("plus", "load", "store"):
        return (words[-1] + row[3]) % 65536
    return {"num": lambda: row[2], "link": lambda: place + 1}.get(word, lambda: 0)()


def goal(row, words, place):
    word = row[0]
    if word == "go":
        return words[0]
    return row[-1] if word in ("jump", "link") or word == "zero" and words[0] == 0 else place + 1


class MillModel:
    def __init__(self, program, memory, inputs=None, calls=None, sets=2, size=8):
        self.program = program
        # The machine that rows are done upon: its memory isn't the mill's, which is put into ahead of write.
        self.done = Model(program, memory, inputs)
        self.near = Near(Slow(memory), sets)
        self.guesses = Guesses(size)
        self.many = len(memory)
        self.calls = list(calls or ())
        self.fetched_next = 0
        self.number = -1
        self.stations = ["fill"] * 5

    def step(self):
        self.number += 1
        answer, turned = self.write()
        turned = self.call() or turned
        if not turned and self.memory() and self.reckon() and self.read():
            self.fetch()
        return answer

    def turn(self, place):
        self.stations = ["turn"] * 5
        self.fetched_next = place
        return True

    def write(self):
        flight = self.stations[4]
        if isinstance(flight, str):
            return ("gap", flight), False
        self.done.place = flight["place"]
        answer = self.done.step()
        turned = answer[0] == "fault" or flight["row"][0] in ("home", "stop")
        if turned:
            self.turn(self.done.place)
        return answer, turned

    def call(self):
        if not self.done.may_be_called() or not self.calls or self.calls[0][0] > self.number:
            return False
        flights = [station for station in self.stations[:4] if not isinstance(station, str)]
        self.done.place = flights[-1]["place"] if flights else self.fetched_next
        self.done.call(self.calls.pop(0)[1])
        return self.turn(self.program.hall)

    def memory(self):
        flight = self.stations[3]
        self.stations[4] = flight
        if isinstance(flight, str):
            return True
        flight["left"] -= 1
        if flight["left"]:
            self.stations[4] = "miss"
            return False
        if flight["fault"] == 0 and flight["row"][0] == "load":
            flight["value"] = self.near.get(flight["address"])
        if flight["fault"] == 0 and flight["row"][0] == "store":
            self.near.put(flight["address"], flight["words"][0])
        return True

    def reckon(self):
        flight = self.stations[2]
        self.stations[3] = flight
        if isinstance(flight, str):
            return True
        flight["left"] -= 1
        if flight["left"]:
            self.stations[3] = "slow"
            return False
        flight["left"] = 1
        if flight["fault"] == 0:
            self.reckon_row(flight, flight["row"])
        return True

    def reckon_row(self, flight, row):
        number = reckoned(row, flight["words"], flight["place"])
        if box_given(flight) is not None and row[0] not in LATE:
            flight["value"] = number
        if number is None:
            flight["fault"] = 3
        elif row[0] in ("load", "store"):
            flight["address"] = number
            if number < self.many:
                flight["left"] = self.near.cost(number)
            else:
                flight["fault"] = 4
        elif row[0] in JUMPS:
            went = goal(row, flight["words"], flight["place"])
            self.guesses.learn(flight["place"], went)
            if went != flight["guess"]:
                self.stations[:2] = ["guess", "guess"]
                self.fetched_next = went

    def read(self):
        flight = self.stations[1]
        self.stations[2] = flight
        if isinstance(flight, str) or flight["row"] is None:
            return True
        older = [station for station in self.stations[3:] if not isinstance(station, str)]
        if older and flight["row"][0] in ALONE:
            self.stations[2] = "alone"
            return False
        words = tuple(self.word_had(box, older) for box in read_boxes(flight["row"]))
        if None in words:
            self.stations[2] = "hold"
            return False
        flight["words"] = words
        flight["left"] = LONG.get(flight["row"][0], 1)
        return True

    def word_had(self, box, older):
        for flight in older:
            if box != 0 and box_given(flight) == box:
                return flight["value"]
        return self.done.boxes[box]

    def fetch(self):
        place = self.fetched_next
        row = self.program.row_at(place)
        fault = 0 if row is not None else 1 if place >= len(self.program.codes) else 2
        self.fetched_next = self.guesses.guess(place)
        self.stations[1] = self.stations[0]
        self.stations[0] = {"place": place, "row": row and row.told(), "fault": fault, "guess": self.fetched_next,
                            "words": None, "value": None, "address": None, "left": 1}

    def stations_told(self):
        keys = ("place", "fault", "guess", "words", "value", "address", "left")
        return tuple(
            ("gap", station) if isinstance(station, str) else ("flight",) + tuple(station[key] for key in keys)
            for station in self.stations)
