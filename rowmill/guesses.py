"""Guesses of the place that comes next, learnt from where the jumps went."""

from rowmill.errors import NoSize
from rowmill.words import is_within

LEAST_SURE = 0
NEW_SURE = 2
MOST_SURE = 3


# What becomes of a slot where the jump at a place went to a goal.
def learnt(slot, place, goal):
    behind = goal == place + 1
    if slot is None or slot[0] != place:
        return slot if behind else (place, goal, NEW_SURE)
    if goal == slot[1]:
        return (place, goal, min(slot[2] + 1, MOST_SURE))
    if behind:
        return (place, slot[1], max(slot[2] - 1, LEAST_SURE))
    return (place, goal, NEW_SURE)


class Guesses:
    def __init__(self, size=8):
        if not is_within(size, 1, 16):
            raise NoSize("there are 1 to 16 slots")
        self.entries = [None for number in range(size)]

    def slot_number(self, place):
        return place % len(self.entries)

    def guess(self, place):
        slot = self.entries[self.slot_number(place)]
        if slot is not None and slot[0] == place and slot[2] >= NEW_SURE:
            return slot[1]
        return place + 1

    def learn(self, place, goal):
        number = self.slot_number(place)
        self.entries[number] = learnt(self.entries[number], place, goal)

    def slots(self):
        return tuple(self.entries)


def slot_copied(slot):
    if slot is None:
        return None
    return tuple(slot)


def with_slots(slots):
    guesses = Guesses(len(slots))
    guesses.entries = [slot_copied(slot) for slot in slots]
    return guesses
