import unittest

from tests import wrong_things
from tests.test_flights import fields
from rowmill.errors import NoCall
from rowmill.flights import Flight, fetched
from rowmill.guesses import Guesses
from rowmill.near import Near
from rowmill.parts import (
    REASONS, ask_memory, calls_of, flights_in, is_jump, memory_steps, oldest_place, read_flight, reckon_flight,
    station_of, station_told,
)
from rowmill.reading import read
from rowmill.slow import Slow

BOXES = [0, 11, 12, 13, 14, 15, 16, 0]


def flight_at(text):
    return fetched(read(text), Guesses(), 0)


def read_at(text, older=(), boxes=BOXES):
    flight = flight_at(text)
    return flight, read_flight(flight, boxes, list(older))


def reckoned_at(text, cells=8):
    flight, _ = read_at(text)
    reckon_flight(flight, cells)
    return flight


class Reasons(unittest.TestCase):
    def test_all_seven_in_order(self):
        self.assertEqual(REASONS, ("fill", "turn", "guess", "hold", "alone", "slow", "miss"))


class Calls(unittest.TestCase):
    def test_calls(self):
        for calls in (None, [], (), [(0, 0)], ((5, 15), (5, 0), (6, 1)), [[0, 1], [10 ** 30, 2]], [(3, 3)] * 20):
            told = calls_of(calls)
            self.assertEqual(told, [tuple(call) for call in calls or ()])

    def test_they_are_copied(self):
        calls = [[1, 2]]
        told = calls_of(calls)
        calls[0][0] = 5
        calls.append([6, 6])
        self.assertEqual(told, [(1, 2)])

    def test_calls_that_are_none(self):
        for wrong in wrong_things.CALLS:
            with self.subTest(calls=wrong):
                with self.assertRaises(NoCall):
                    calls_of(wrong)


class Read(unittest.TestCase):
    def test_words_and_long(self):
        for text, words, left in (
            ("num r1 5", (), 1), ("plus r1 r2 5", (12,), 1), ("add r1 r2 r3", (12, 13), 1), ("mul r1 r3 r2", (13, 12), 3),
            ("div r1 r2 r0", (12, 0), 5), ("rest r1 r1 r1", (11, 11), 5), ("load r1 r2 0", (12,), 1),
            ("store r1 r2 0", (11, 12), 1), ("zero r4 0", (14,), 1), ("go r4", (14,), 1), ("link r4 0", (), 1),
            ("tell r5", (15,), 1), ("aim r6", (16,), 1), ("ask r1", (), 1), ("home", (), 1), ("stop", (), 1),
        ):
            flight, reason = read_at(text)
            self.assertEqual(reason, "")
            self.assertEqual(fields(flight), (0, 0, 1, words, None, None, left), text)

    def test_without_a_row(self):
        for text, fault in (("", 1), ("code 1", 2)):
            flight, reason = read_at(text, [flight_at("num r1 5")])
            self.assertEqual(reason, "")
            self.assertEqual(fields(flight), (0, fault, 1, None, None, None, 1))

    def test_alone(self):
        for older in ("num r7 5", "code 1", "stop", "load r7 r0 0"):
            for text in ("why r1", "where r1", "aim r1", "home", "why r0"):
                flight, reason = read_at(text, [flight_at(older)])
                self.assertEqual(reason, "alone")
                self.assertEqual(fields(flight), (0, 0, 1, None, None, None, 1))
                self.assertEqual(read_at(text)[1], "")

    def test_alone_comes_ahead_of_hold(self):
        self.assertEqual(read_at("aim r1", [flight_at("ask r1")])[1], "alone")

    def test_hold(self):
        for older in ("ask r1", "load r1 r0 0", "why r1", "where r1"):
            flight, reason = read_at("tell r1", [flight_at(older)])
            self.assertEqual(reason, "hold")
            self.assertEqual(fields(flight), (0, 0, 1, None, None, None, 1))
            self.assertEqual(read_at("tell r2", [flight_at(older)])[1], "")

    def test_words_handed_ahead(self):
        young, old = flight_at("num r1 5"), flight_at("num r1 6")
        young.value, old.value = 5, 6
        self.assertEqual(read_at("add r2 r1 r3", [young, old])[0].words, (5, 13))
        self.assertEqual(read_at("add r2 r1 r3", [old, young])[0].words, (6, 13))
        old.value = None
        self.assertEqual(read_at("add r2 r1 r3", [young, old])[0].words, (5, 13))
        self.assertEqual(read_at("add r2 r1 r3", [old, young])[1], "hold")

    def test_a_fault_gives_to_no_box(self):
        old = flight_at("div r1 r2 r0")
        old.fault = 3
        self.assertEqual(read_at("tell r1", [old])[0].words, (11,))


class Reckon(unittest.TestCase):
    def test_values(self):
        for text, words, value in (
            ("num r1 5", (), 5), ("plus r1 r2 5", (12,), 17), ("add r1 r2 r3", (12, 13), 25), ("link r1 5", (), 1),
            ("num r0 5", (), None), ("stop", (), None), ("ask r1", (), None), ("why r1", (), None), ("tell r1", (11,), None),
            ("zero r1 5", (11,), None), ("jump 5", (), None), ("aim r1", (11,), None), ("home", (), None),
        ):
            flight = reckoned_at(text)
            self.assertEqual(fields(flight)[:6], (0, 0, 1, words, value, None), text)

    def test_addresses(self):
        for text, words, address, fault in (
            ("load r1 r7 0", (0,), 0, 0), ("load r1 r7 7", (0,), 7, 0), ("load r1 r7 8", (0,), 8, 4),
            ("load r0 r7 -1", (0,), 65535, 4), ("store r1 r7 7", (11, 0), 7, 0), ("store r1 r1 -3", (11, 11), 8, 4),
        ):
            flight = reckoned_at(text)
            self.assertEqual(fields(flight)[:6], (0, fault, 1, words, None, address), text)

    def test_by_nought(self):
        for text in ("div r1 r2 r0", "rest r1 r2 r7", "div r0 r2 r0"):
            flight = reckoned_at(text)
            self.assertEqual((flight.fault, flight.value, flight.address), (3, None, None))

    def test_a_fault_stays(self):
        for text, fault in (("", 1), ("code 1", 2)):
            self.assertEqual(fields(reckoned_at(text)), (0, fault, 1, None, None, None, 1))

    def test_which_are_jumps(self):
        for text in ("jump 5", "zero r1 5", "link r1 5", "go r1"):
            self.assertTrue(is_jump(flight_at(text)), text)
        for text in ("", "code 1", "home", "stop", "num r1 5", "load r1 r0 0"):
            self.assertFalse(is_jump(flight_at(text)), text)


class Memory(unittest.TestCase):
    def setUp(self):
        self.slow = Slow(list(range(100, 132)))
        self.near = Near(self.slow, 1)

    def test_steps(self):
        self.assertEqual(memory_steps(reckoned_at("load r1 r7 5"), self.near), 5)
        self.near.put(5, 9)
        self.assertEqual(memory_steps(reckoned_at("load r1 r7 5"), self.near), 1)
        self.assertEqual(memory_steps(reckoned_at("store r1 r7 0"), self.near), 5)
        self.near.put(0, 9)
        self.assertEqual(memory_steps(reckoned_at("store r1 r7 8", 32), self.near), 9)

    def test_steps_of_others(self):
        for text in ("num r1 5", "", "code 1", "load r1 r7 -1", "store r1 r7 -1", "div r1 r1 r0", "jump 5"):
            self.assertEqual(memory_steps(reckoned_at(text), self.near), 1, text)

    def test_load(self):
        flight = reckoned_at("load r1 r7 5")
        ask_memory(flight, self.near)
        self.assertEqual(fields(flight)[:6], (0, 0, 1, (0,), 105, 5))
        self.assertEqual([line[0] for line in self.near.held()[0]], [1])

    def test_load_to_box_nought_is_got_too(self):
        flight = reckoned_at("load r0 r7 5")
        ask_memory(flight, self.near)
        self.assertEqual(flight.value, 105)
        self.assertEqual(flight.pair()[0], None)

    def test_store(self):
        flight = reckoned_at("store r3 r7 5")
        ask_memory(flight, self.near)
        self.assertEqual(self.near.held(), (((1, (104, 13, 106, 107), True),),))
        self.assertIsNone(flight.value)

    def test_others_ask_nothing(self):
        for text in ("num r1 5", "", "code 1", "load r1 r7 -1", "store r1 r7 -1", "jump 5"):
            ask_memory(reckoned_at(text), self.near)
        self.assertEqual((self.near.held(), self.slow.reads()), (((),), 0))


class Stations(unittest.TestCase):
    def test_told_and_made_again(self):
        program = read("num r1 5\nload r1 r2 3")
        for reason in REASONS:
            self.assertEqual(station_told(reason), ("gap", reason))
            self.assertEqual(station_of(("gap", reason), program), reason)
            self.assertEqual(station_of(["gap", reason], program), reason)
        flight = fetched(program, Guesses(), 1)
        self.assertEqual(station_told(flight), ("flight", 1, 0, 2, None, None, None, 1))
        self.assertEqual(station_told(station_of(station_told(flight), program)), station_told(flight))

    def test_the_oldest(self):
        young, old = Flight(3, None, 1, 4), Flight(2, None, 1, 3)
        self.assertEqual(flights_in([young, "fill", old, "miss"]), [young, old])
        self.assertEqual(oldest_place([young, "fill", old, "miss"], 9), 2)
        self.assertEqual(oldest_place([young, "fill"], 9), 3)
        self.assertEqual(oldest_place(["turn", "turn"], 9), 9)
        self.assertEqual(oldest_place([], 9), 9)


if __name__ == "__main__":
    unittest.main()
