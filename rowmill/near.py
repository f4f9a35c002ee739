"""The near memory: a few lines held before a slow one, and written back only where they go or settle."""

from rowmill.errors import NoPlace, NoSets
from rowmill.words import is_number, is_within

ROOM = 2


class Line:
    def __init__(self, number, words, changed):
        self.number = number
        self.words = list(words)
        self.changed = changed

    def told(self):
        return (self.number, tuple(self.words), self.changed)


# Each set of lines is a list, the line asked last first.
class Near:
    def __init__(self, slow, sets=2):
        if not is_number(sets) or sets not in (1, 2, 4):
            raise NoSets("there are 1, 2 or 4 sets")
        self.slow = slow
        self.sets = sets
        self.rooms = [[] for number in range(sets)]

    def refuse_no_place(self, address):
        if not is_within(address, 0, self.slow.size() - 1):
            raise NoPlace("there is no such address")

    def room_of(self, number):
        return self.rooms[number % self.sets]

    def found(self, number):
        for line in self.room_of(number):
            if line.number == number:
                return line
        return None

    def write_back(self, line):
        if line.changed:
            self.slow.put_four(line.number, line.words)
            line.changed = False

    def asked(self, number):
        room = self.room_of(number)
        line = self.found(number)
        if line is not None:
            room.remove(line)
        else:
            if len(room) == ROOM:
                self.write_back(room.pop())
            line = Line(number, self.slow.four(number), False)
        room.insert(0, line)
        return line

    def get(self, address):
        self.refuse_no_place(address)
        return self.asked(address // 4).words[address % 4]

    def put(self, address, word):
        self.refuse_no_place(address)
        line = self.asked(address // 4)
        line.words[address % 4] = word
        line.changed = True

    def cost(self, address):
        self.refuse_no_place(address)
        number = address // 4
        if self.found(number) is not None:
            return 1
        room = self.room_of(number)
        if len(room) == ROOM and room[-1].changed:
            return 9
        return 5

    def look(self, address):
        self.refuse_no_place(address)
        line = self.found(address // 4)
        if line is None:
            return self.slow.word_at(address)
        return line.words[address % 4]

    def settle(self):
        for room in self.rooms:
            for line in room:
                self.write_back(line)

    def held(self):
        return tuple([lines_told(room) for room in self.rooms])


def lines_told(room):
    return tuple([line.told() for line in room])


def lines_of(room):
    return [Line(line[0], line[1], line[2]) for line in room]


def with_held(slow, sets, held):
    near = Near(slow, sets)
    near.rooms = [lines_of(room) for room in held]
    return near
