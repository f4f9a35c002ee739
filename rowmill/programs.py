"""A program: its codes, and the hall to which faults and calls go."""

from rowmill.codes import row_of
from rowmill.errors import NoProgram
from rowmill.words import is_listed, is_within

MOST_CODES = 64
LAST_CODE = 16777215
LAST_GOAL = 1023


def is_code(thing):
    return is_within(thing, 0, LAST_CODE)


def are_codes(things):
    if not is_listed(things) or len(things) > MOST_CODES:
        return False
    return all([is_code(thing) for thing in things])


def is_hall(thing):
    return thing is None or is_within(thing, 0, LAST_GOAL)


class Program:
    def __init__(self, codes, hall=None):
        if not are_codes(codes):
            raise NoProgram("codes are a list of at most 64 numbers from 0 to 16777215")
        if not is_hall(hall):
            raise NoProgram("a hall is None or a number from 0 to 1023")
        self.codes = tuple(codes)
        self.hall = hall

    def has_code(self, place):
        return 0 <= place < len(self.codes)

    # The row is made anew each time: whoever asked may change it.
    def row_at(self, place):
        if not self.has_code(place):
            return None
        return row_of(self.codes[place])

    def cause_at(self, place):
        if not self.has_code(place):
            return 1
        if self.row_at(place) is None:
            return 2
        return 0
