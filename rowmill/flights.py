"""A row on its way through the stations."""


class Flight:
    def __init__(self, place, row, fault, guessed):
        self.place = place
        self.row = row
        self.fault = fault
        # The place fetched behind it; the guesses have a method of the shorter name.
        self.guessed = guessed
        self.words = None
        self.value = None
        self.address = None
        self.left = 1

    # The box that it gives to and the word, as the rows behind it may have it.
    def pair(self):
        if self.fault != 0:
            return (None, None)
        return (self.row.gives(), self.value)

    def told(self):
        return (
            "flight", self.place, self.fault, self.guessed, self.words, self.value, self.address, self.left,
        )


def fetched(program, guesses, place):
    return Flight(place, program.row_at(place), program.cause_at(place), guesses.guess(place))


def words_copied(words):
    if words is None:
        return None
    return tuple(words)


# Its row isn't told with a flight: the program has it.
def flight_of(told, program):
    place = told[1]
    flight = Flight(place, program.row_at(place), told[2], told[3])
    flight.words = words_copied(told[4])
    flight.value = told[5]
    flight.address = told[6]
    flight.left = told[7]
    return flight
