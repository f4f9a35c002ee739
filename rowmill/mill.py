"""The mill: rows go through five stations one behind the other, and what comes of them is as the plain machine's."""

from rowmill.flights import Flight, fetched
from rowmill.guesses import Guesses, with_slots
from rowmill.near import Near, with_held
from rowmill.parts import (
    FETCH, MEMORY, READ, REASONS, RECKON, WRITE, ask_memory, calls_of, flights_in, gaps_of, is_jump, memory_steps,
    oldest_place, read_flight, reckon_flight, station_of, station_told,
)
from rowmill.plain import CALLED, State, inputs_of, memory_of, ran
from rowmill.slow import Slow


class Mill:
    def __init__(self, program, memory, inputs=None, calls=None, sets=2, size=8):
        self.program = program
        self.slow = Slow(memory_of(memory))
        self.state = State(inputs_of(inputs))
        self.calls = calls_of(calls)
        self.near = Near(self.slow, sets)
        self.guesses = Guesses(size)
        # The place that is fetched next.
        self.coming = 0
        self.steps_done = 0
        self.answers = []
        self.counts = dict([(reason, 0) for reason in REASONS])
        self.held_at = gaps_of("fill")

    def step(self):
        self.state.refuse_ended()
        written = self.write_part()
        turned = self.turn_to(written[1])
        # Home's turn comes first, so that a call in the same step goes back to where Home went.
        called = self.call_part()
        if not turned and not called:
            self.move()
        self.steps_done = self.steps_done + 1
        return written[0]

    # Each station waits for the one ahead of it: where one can't go on, the step is over.
    def move(self):
        if self.memory_part() and self.reckon_part() and self.read_part():
            self.fetch_part()

    # Tells the answer, and the place to turn to, None where it doesn't turn.
    def write_part(self):
        station = self.held_at[WRITE]
        if not isinstance(station, Flight):
            self.counts[station] = self.counts[station] + 1
            return (("gap", station), None)
        written = self.write_flight(station)
        self.answers.append(written[0])
        return written

    def write_flight(self, flight):
        place = flight.place
        fault = flight.fault
        if fault == 0:
            fault = self.state.late_fault(flight.row)
        if fault != 0:
            return (("fault", place, fault), self.state.fall(fault, place, self.program.hall))
        self.state.do(flight.row, flight.words, flight.value)
        return (("done", place), self.state.turn_of(flight.row, place))

    def turn_to(self, place):
        if place is None:
            return False
        self.held_at = gaps_of("turn")
        self.coming = place
        return True

    def has_call(self):
        if self.state.end != "" or not self.state.is_open(self.program.hall):
            return False
        return len(self.calls) > 0 and self.calls[0][0] <= self.steps_done

    def call_part(self):
        if not self.has_call():
            return False
        number = self.calls.pop(0)[1]
        # What stood at write has left.
        place = oldest_place(self.held_at[:WRITE], self.coming)
        self.state.enter(CALLED + number, place)
        self.answers.append(("call", number, place))
        return self.turn_to(self.program.hall)

    def memory_part(self):
        station = self.held_at[MEMORY]
        if isinstance(station, Flight):
            station.left = station.left - 1
            if station.left != 0:
                self.held_at[WRITE] = "miss"
                return False
            ask_memory(station, self.near)
        self.held_at[WRITE] = station
        return True

    def reckon_part(self):
        station = self.held_at[RECKON]
        if isinstance(station, Flight):
            station.left = station.left - 1
            if station.left != 0:
                self.held_at[MEMORY] = "slow"
                return False
            reckon_flight(station, self.slow.size())
            self.learn_jump(station)
            station.left = memory_steps(station, self.near)
        self.held_at[MEMORY] = station
        return True

    def learn_jump(self, flight):
        if not is_jump(flight):
            return
        goal = flight.row.goal(flight.words, flight.place)
        self.guesses.learn(flight.place, goal)
        if goal != flight.guessed:
            self.held_at[READ] = "guess"
            self.held_at[FETCH] = "guess"
            self.coming = goal

    def read_part(self):
        station = self.held_at[READ]
        if isinstance(station, Flight):
            older = flights_in(self.held_at[MEMORY:])
            reason = read_flight(station, self.state.boxes, older)
            if reason != "":
                self.held_at[RECKON] = reason
                return False
        self.held_at[RECKON] = station
        return True

    def fetch_part(self):
        self.held_at[READ] = self.held_at[FETCH]
        flight = fetched(self.program, self.guesses, self.coming)
        self.held_at[FETCH] = flight
        self.coming = flight.guessed

    def run(self, most):
        return ran(self, most)

    def log(self):
        return list(self.answers)

    def gaps(self):
        return dict(self.counts)

    def steps(self):
        return self.steps_done

    def told(self):
        return self.state.told(oldest_place(self.held_at, self.coming))

    def memory(self):
        return [self.near.look(address) for address in range(self.slow.size())]

    def stations(self):
        return tuple([station_told(station) for station in self.held_at])

    def parts(self):
        state = self.state
        flags = (state.inside, state.cause, state.back)
        counts = tuple([self.counts[reason] for reason in REASONS])
        return (
            tuple(state.boxes), flags, tuple(state.said), tuple(state.left), state.end,
            tuple(self.slow.whole()), self.near.sets, self.near.held(), self.guesses.slots(), self.coming,
            self.steps_done, tuple(self.calls), tuple(self.answers), counts, self.stations(),
        )


def state_of(boxes, flags, said, left, end):
    state = State(left)
    state.boxes = list(boxes)
    state.inside = flags[0]
    state.cause = flags[1]
    state.back = flags[2]
    state.said = list(said)
    state.end = end
    return state


# The parts stand in the order in which a mill tells them.
def mill_with(program, parts):
    mill = Mill(program, parts[5])
    mill.state = state_of(parts[0], parts[1], parts[2], parts[3], parts[4])
    mill.near = with_held(mill.slow, parts[6], parts[7])
    mill.guesses = with_slots(parts[8])
    mill.coming = parts[9]
    mill.steps_done = parts[10]
    mill.calls = [tuple(call) for call in parts[11]]
    mill.answers = [tuple(row) for row in parts[12]]
    mill.counts = dict(zip(REASONS, parts[13]))
    mill.held_at = [station_of(told, program) for told in parts[14]]
    return mill
