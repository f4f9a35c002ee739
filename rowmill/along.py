"""A plain machine that goes along a log, and whether it is like the mill that told it."""

from rowmill.errors import NoCall, NoLog, NoStep, Shut
from rowmill.parts import WRITE
from rowmill.plain import LOG_NUMBERS, Plain
from rowmill.rows import Store
from rowmill.words import is_listed, is_number


def is_log_row(row):
    if not is_listed(row) or len(row) == 0 or not isinstance(row[0], str):
        return False
    if LOG_NUMBERS.get(row[0]) != len(row) - 1:
        return False
    return all([is_number(thing) for thing in row[1:]])


# What the plain machine tells to such a row, None where it refuses.
def answer_to(plain, row):
    try:
        if row[0] == "call":
            return plain.call(row[1])
        return plain.step()
    except NoCall:
        return None
    except NoStep:
        return None
    except Shut:
        return None


def along(program, memory, inputs, log):
    plain = Plain(program, memory, inputs)
    for at, row in enumerate(log):
        if not is_log_row(row) or answer_to(plain, row) != tuple(row):
            raise NoLog(at)
    return plain


# A store that stands at write has put its word already, though it isn't done yet.
def stored_ahead(mill):
    station = mill.stations()[WRITE]
    if station[0] == "gap" or station[2] != 0:
        return None
    if not isinstance(mill.program.row_at(station[1]), Store):
        return None
    return station[6]


def without(words, address):
    return [word for number, word in enumerate(words) if number != address]


def alike(plain, mill):
    address = stored_ahead(mill)
    return plain.told() == mill.told() and without(plain.memory(), address) == without(mill.memory(), address)
