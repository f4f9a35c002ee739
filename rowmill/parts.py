"""What the steps of the mill are made of: what a station does with a flight, and how stations are told."""

from rowmill.ahead import all_had
from rowmill.errors import NoCall
from rowmill.flights import Flight, flight_of
from rowmill.jumps import Go, Jump, Link, Zero
from rowmill.plain import BEYOND, NOUGHT, is_call_number
from rowmill.rows import Load, Store
from rowmill.words import is_listed, is_number

REASONS = ("fill", "turn", "guess", "hold", "alone", "slow", "miss")
MOST_CALLS = 20

# Where each station stands among the five; a station holds a flight or the reason of its gap.
FETCH = 0
READ = 1
RECKON = 2
MEMORY = 3
WRITE = 4


def is_call(thing):
    if not is_listed(thing) or len(thing) != 2:
        return False
    return is_number(thing[0]) and thing[0] >= 0 and is_call_number(thing[1])


def are_calls(things):
    if not is_listed(things) or len(things) > MOST_CALLS:
        return False
    if not all([is_call(thing) for thing in things]):
        return False
    steps = [thing[0] for thing in things]
    return steps == sorted(steps)


def calls_of(calls):
    if calls is None:
        return []
    if not are_calls(calls):
        raise NoCall("calls are at most 20 pairs of a step, none less than the one ahead, and a number from 0 to 15")
    return [tuple(call) for call in calls]


def gaps_of(reason):
    return [reason, reason, reason, reason, reason]


def flights_in(stations):
    return [station for station in stations if isinstance(station, Flight)]


# Stations stand from the youngest to the oldest, as the mill's do.
def oldest_place(stations, otherwise):
    flights = flights_in(stations)
    if not flights:
        return otherwise
    return flights[-1].place


# Tells why the flight must wait, nothing where it goes on; older are the flights ahead of it, the youngest first.
def read_flight(flight, boxes, older):
    row = flight.row
    if row is None:
        flight.left = 1
        return ""
    if row.alone() and older:
        return "alone"
    words = all_had(row.reads(), boxes, [other.pair() for other in older])
    if words is None:
        return "hold"
    flight.words = words
    flight.left = row.long()
    return ""


def reaches_memory(flight):
    return flight.fault == 0 and isinstance(flight.row, (Load, Store))


def reckon_flight(flight, cells):
    if flight.fault != 0:
        return
    row = flight.row
    number = row.reckoned(flight.words, flight.place)
    if row.known() == "reckon":
        flight.value = number
    if number is None:
        flight.fault = NOUGHT
    elif isinstance(row, (Load, Store)):
        flight.address = number
        if number >= cells:
            flight.fault = BEYOND


def is_jump(flight):
    return flight.fault == 0 and isinstance(flight.row, (Jump, Zero, Link, Go))


def memory_steps(flight, near):
    if reaches_memory(flight):
        return near.cost(flight.address)
    return 1


def ask_memory(flight, near):
    if not reaches_memory(flight):
        return
    if isinstance(flight.row, Load):
        flight.value = near.get(flight.address)
    else:
        near.put(flight.address, flight.words[0])


def station_told(station):
    if isinstance(station, Flight):
        return station.told()
    return ("gap", station)


def station_of(told, program):
    if told[0] == "gap":
        return told[1]
    return flight_of(told, program)
