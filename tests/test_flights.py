import unittest

from rowmill.flights import Flight, fetched, flight_of
from rowmill.guesses import with_slots
from rowmill.reading import read

FIELDS = ("place", "fault", "guessed", "words", "value", "address", "left")


def fields(flight):
    return tuple(getattr(flight, name) for name in FIELDS)


class Fetched(unittest.TestCase):
    def setUp(self):
        self.program = read("num r1 5\njump 0\ncode 1")
        self.guesses = with_slots([None, (1, 0, 2)])

    def test_a_row(self):
        flight = fetched(self.program, self.guesses, 0)
        self.assertIsInstance(flight, Flight)
        self.assertEqual(flight.row.told(), ("num", 1, 5))
        self.assertEqual(fields(flight), (0, 0, 1, None, None, None, 1))

    def test_its_guess_is_that_of_the_guesses(self):
        flight = fetched(self.program, self.guesses, 1)
        self.assertEqual(flight.row.told(), ("jump", 0))
        self.assertEqual(fields(flight), (1, 0, 0, None, None, None, 1))

    def test_no_row(self):
        for place, fault in ((2, 2), (3, 1), (64, 1), (65535, 1), (65536, 1)):
            flight = fetched(self.program, self.guesses, place)
            self.assertIsNone(flight.row)
            self.assertEqual(fields(flight), (place, fault, place + 1, None, None, None, 1))

    def test_asking_learns_nothing(self):
        fetched(self.program, self.guesses, 1)
        fetched(self.program, self.guesses, 0)
        self.assertEqual(self.guesses.slots(), (None, (1, 0, 2)))


class Told(unittest.TestCase):
    def test_as_the_stations_tell_it(self):
        flight = Flight(3, None, 2, 4)
        self.assertEqual(flight.told(), ("flight", 3, 2, 4, None, None, None, 1))
        flight.words, flight.value, flight.address, flight.left = (5, 6), 7, 8, 9
        self.assertEqual(flight.told(), ("flight", 3, 2, 4, (5, 6), 7, 8, 9))

    def test_made_again(self):
        program = read("num r1 5\nload r1 r2 3")
        for told in (
            ("flight", 0, 0, 1, None, None, None, 1), ("flight", 1, 0, 2, (9,), 5, 12, 0),
            ("flight", 1, 4, 9, (65535,), None, 65538, 1), ("flight", 0, 0, 1, (), 5, None, 1),
            ("flight", 7, 1, 8, None, None, None, 1),
        ):
            for handed in (told, list(told), [list(part) if isinstance(part, tuple) else part for part in told]):
                flight = flight_of(handed, program)
                self.assertEqual(flight.told(), told)
                self.assertIsInstance(flight.told()[4], (tuple, type(None)))
                row = program.row_at(told[1])
                self.assertEqual(flight.row and flight.row.told(), row and row.told())


class Pair(unittest.TestCase):
    def pair(self, text, value=None, fault=0):
        flight = fetched(read(text), with_slots([None]), 0)
        flight.value = value
        flight.fault = fault or flight.fault
        return flight.pair()

    def test_pairs(self):
        self.assertEqual(self.pair("num r1 5"), (1, None))
        self.assertEqual(self.pair("num r1 5", 5), (1, 5))
        self.assertEqual(self.pair("load r3 r1 5", 0), (3, 0))
        self.assertEqual(self.pair("ask r3"), (3, None))

    def test_none_is_given(self):
        for text in ("stop", "store r1 r2 3", "tell r1", "num r0 5"):
            self.assertEqual(self.pair(text), (None, None))

    def test_a_fault_gives_to_no_box(self):
        self.assertEqual(self.pair("div r1 r2 r3", None, 3), (None, None))
        self.assertEqual(self.pair("load r1 r2 3", None, 4), (None, None))
        self.assertEqual(self.pair("code 1"), (None, None))
        self.assertEqual(self.pair(""), (None, None))


if __name__ == "__main__":
    unittest.main()
