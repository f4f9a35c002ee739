"""Mills kept as texts, and woken of them."""

from rowmill.errors import NoText
from rowmill.mill import mill_with
from rowmill.parts import MOST_CALLS, REASONS
from rowmill.plain import LAST_CALL, LOG_NUMBERS, MOST_INPUTS, is_memory_size
from rowmill.programs import LAST_CODE, LAST_GOAL, MOST_CODES, Program
from rowmill.reading import is_figures
from rowmill.words import LAST_WORD

BOXES = 8
MOST_SLOTS = 16
STATIONS = 5
SETS = {"1": 1, "2": 2, "4": 4}
ENDS = {"on": "", "stop": "stop", "lost": "lost"}


def thing_text(thing):
    if thing is None:
        return "-"
    if thing is True:
        return "yes"
    if thing is False:
        return "no"
    return str(thing)


def row_kept(word, things):
    return " ".join([word] + [thing_text(thing) for thing in things])


def list_kept(word, things):
    if not things:
        return f"{word} -"
    return row_kept(word, things)


def end_kept(end):
    if end == "":
        return "end on"
    return f"end {end}"


def lines_kept(held):
    rows = []
    for number, lines in enumerate(held):
        for line in lines:
            rows.append(row_kept("line", [number, line[0]] + list(line[1]) + [line[2]]))
    return rows


def slot_kept(slot):
    if slot is None:
        return "slot -"
    return row_kept("slot", slot)


def words_kept(words):
    if words is None:
        return "-"
    if not words:
        return "none"
    return ",".join([str(word) for word in words])


def station_kept(station):
    if station[0] == "gap":
        return row_kept("gap", station[1:])
    return row_kept("flight", list(station[1:4]) + [words_kept(station[4])] + list(station[5:]))


def kept(mill):
    parts = mill.parts()
    rows = [
        row_kept("hall", [mill.program.hall]), list_kept("codes", mill.program.codes), list_kept("boxes", parts[0]),
        row_kept("flags", parts[1]), list_kept("said", parts[2]), list_kept("left", parts[3]), end_kept(parts[4]),
        list_kept("slow", parts[5]), row_kept("sets", [parts[6]]),
    ]
    rows = rows + lines_kept(parts[7]) + [slot_kept(slot) for slot in parts[8]]
    rows = rows + [row_kept("next", [parts[9]]), row_kept("steps", [parts[10]])]
    rows = rows + [row_kept("call", call) for call in parts[11]] + [row_kept("log", row) for row in parts[12]]
    rows = rows + [list_kept("gaps", parts[13])] + [station_kept(station) for station in parts[14]]
    return "".join([f"{row}\n" for row in rows])


# What stands below reads a row's words to a list of things, or to None where they can't stand.


def number_from(word, last=None):
    if not is_figures(word) or (word.startswith("0") and word != "0"):
        return None
    number = int(word)
    if last is not None and number > last:
        return None
    return number


def truth_from(word):
    if word == "yes":
        return True
    if word == "no":
        return False
    return None


def all_there(things):
    if None in things:
        return None
    return things


def numbers_from(words, many, last=None):
    if len(words) != many:
        return None
    return all_there([number_from(word, last) for word in words])


def list_from(words, last):
    if words == ["-"]:
        return []
    if not words:
        return None
    return numbers_from(words, len(words), last)


def list_to(words, last, most):
    things = list_from(words, last)
    if things is None or len(things) > most:
        return None
    return things


def maybe_from(word, last=None):
    if word == "-":
        return [None]
    return numbers_from([word], 1, last)


def hall_from(words):
    if len(words) != 1:
        return None
    return maybe_from(words[0], LAST_GOAL)


def codes_from(words):
    return list_to(words, LAST_CODE, MOST_CODES)


def boxes_from(words):
    return numbers_from(words, BOXES, LAST_WORD)


def flags_from(words):
    if len(words) != 3:
        return None
    return all_there([truth_from(words[0]), number_from(words[1]), number_from(words[2])])


def said_from(words):
    return list_from(words, LAST_WORD)


def left_from(words):
    return list_to(words, LAST_WORD, MOST_INPUTS)


def end_from(words):
    if len(words) != 1 or words[0] not in ENDS:
        return None
    return [ENDS[words[0]]]


def slow_from(words):
    if not is_memory_size(len(words)):
        return None
    return numbers_from(words, len(words), LAST_WORD)


def sets_from(words):
    if len(words) != 1 or words[0] not in SETS:
        return None
    return [SETS[words[0]]]


def line_from(words):
    if len(words) != 7:
        return None
    numbers = [number_from(word) for word in words[:2]] + [number_from(word, LAST_WORD) for word in words[2:6]]
    return all_there(numbers + [truth_from(words[6])])


def slot_from(words):
    if words == ["-"]:
        return [None]
    slot = numbers_from(words, 3)
    if slot is None:
        return None
    return [slot]


def one_from(words):
    return numbers_from(words, 1)


def call_from(words):
    if len(words) != 2:
        return None
    return all_there([number_from(words[0]), number_from(words[1], LAST_CALL)])


def log_from(words):
    if not words or words[0] not in LOG_NUMBERS:
        return None
    numbers = numbers_from(words[1:], LOG_NUMBERS[words[0]])
    if numbers is None:
        return None
    return [words[0]] + numbers


def gaps_from(words):
    return numbers_from(words, len(REASONS))


def gap_from(words):
    if len(words) != 1 or words[0] not in REASONS:
        return None
    return ["gap", words[0]]


def words_from(word):
    if word == "-":
        return [None]
    if word == "none":
        return [()]
    parted = word.split(",")
    words = list_to(parted, LAST_WORD, 2)
    if words is None:
        return None
    return [words]


def flight_from(words):
    if len(words) != 7:
        return None
    parted = [
        numbers_from(words[:3], 3), words_from(words[3]), maybe_from(words[4], LAST_WORD), maybe_from(words[5]),
        numbers_from(words[6:], 1),
    ]
    if None in parted:
        return None
    return ["flight"] + parted[0] + parted[1] + parted[2] + parted[3] + parted[4]


# Goes through the rows of a text that kept is to have told.
class Waker:
    def __init__(self, text):
        rows = text.split("\n")
        self.rows = rows[:-1]
        self.behind = rows[-1]
        self.at = 0

    def row_words(self):
        if self.at == len(self.rows):
            return [""]
        return self.rows[self.at].split(" ")

    def take(self, word, reader):
        words = self.row_words()
        things = reader(words[1:])
        if words[0] != word or things is None:
            raise NoText(self.at)
        self.at = self.at + 1
        return things

    # Of more rows than there may be, the next kind of row refuses the first one.
    def take_all(self, word, reader, most):
        taken = []
        while self.row_words()[0] == word and len(taken) < most:
            taken.append(self.take(word, reader))
        return taken

    def take_lines(self):
        return self.take_all("line", line_from, len(self.rows))

    def take_slots(self):
        slots = self.take("slot", slot_from)
        for more in self.take_all("slot", slot_from, MOST_SLOTS - 1):
            slots = slots + more
        return slots

    def take_log(self):
        return self.take_all("log", log_from, len(self.rows))

    def take_station(self):
        if self.row_words()[0] == "gap":
            return self.take("gap", gap_from)
        return self.take("flight", flight_from)

    def refuse_more(self):
        if self.at < len(self.rows) or self.behind != "":
            raise NoText(self.at)


def lines_of_set(lines, number):
    return [(line[1], line[2:6], line[6]) for line in lines if line[0] == number]


def woken(text):
    waker = Waker(text)
    hall = waker.take("hall", hall_from)[0]
    codes = waker.take("codes", codes_from)
    boxes = waker.take("boxes", boxes_from)
    flags = waker.take("flags", flags_from)
    said = waker.take("said", said_from)
    left = waker.take("left", left_from)
    end = waker.take("end", end_from)[0]
    slow = waker.take("slow", slow_from)
    sets = waker.take("sets", sets_from)[0]
    lines = waker.take_lines()
    held = [lines_of_set(lines, number) for number in range(sets)]
    slots = waker.take_slots()
    coming = waker.take("next", one_from)[0]
    steps = waker.take("steps", one_from)[0]
    calls = waker.take_all("call", call_from, MOST_CALLS)
    log = waker.take_log()
    gaps = waker.take("gaps", gaps_from)
    stations = [waker.take_station() for number in range(STATIONS)]
    waker.refuse_more()
    parts = (boxes, flags, said, left, end, slow, sets, held, slots, coming, steps, calls, log, gaps, stations)
    return mill_with(Program(codes, hall), parts)
