import unittest

from rowmill.codes import code_of
from rowmill.errors import NoProgram
from rowmill.programs import Program
from rowmill.rows import Num, Stop

NUM = code_of(Num(3, 7))
NO_ROW = 16777215


class Made(unittest.TestCase):
    def test_how_many_codes(self):
        for many in (0, 1, 2, 63, 64):
            for codes in ([NUM] * many, (NUM,) * many):
                program = Program(codes)
                self.assertEqual(program.codes, (NUM,) * many)
                self.assertIsNone(program.hall)

    def test_too_many_codes(self):
        for many in (65, 66, 1000):
            for codes in ([0] * many, (0,) * many):
                with self.assertRaises(NoProgram):
                    Program(codes)

    def test_codes_at_their_bounds(self):
        self.assertEqual(Program([0, 1, 16777215]).codes, (0, 1, 16777215))

    def test_codes_that_are_none(self):
        for wrong in (-1, 16777216, 10 ** 30, -10 ** 30, True, False, None, "0", "", 1.0, (), [], (0,), {}):
            for codes in ([wrong], (wrong,), [0, 1, wrong], [wrong, 0], [0] * 63 + [wrong]):
                with self.subTest(codes=codes):
                    with self.assertRaises(NoProgram):
                        Program(codes)

    def test_what_is_no_list(self):
        for wrong in (None, 0, 5, True, "", "abc", {}, {1: 2}, {1, 2}, 1.5, range(3), object(), iter([1]), b"ab"):
            with self.assertRaises(NoProgram):
                Program(wrong)

    def test_halls(self):
        self.assertIsNone(Program([0], None).hall)
        for hall in (0, 1, 63, 64, 1022, 1023):
            self.assertEqual(Program([0], hall).hall, hall)
            self.assertEqual(Program([0], hall=hall).hall, hall)
            self.assertEqual(Program([], hall).hall, hall)

    def test_halls_that_are_none(self):
        for wrong in (1024, -1, 10 ** 30, True, False, "", "0", "hall", 1.0, (), [], [0], {}, object()):
            with self.subTest(hall=wrong):
                with self.assertRaises(NoProgram):
                    Program([0], wrong)

    def test_both_wrong(self):
        with self.assertRaises(NoProgram):
            Program(None, "x")


class Own(unittest.TestCase):
    def test_what_is_handed_in_may_be_changed(self):
        codes = [NUM, 0]
        program = Program(codes)
        codes[0] = NO_ROW
        codes.append(5)
        self.assertEqual(program.codes, (NUM, 0))
        self.assertEqual(program.row_at(0).told(), ("num", 3, 7))
        self.assertEqual(program.cause_at(2), 1)

    def test_what_is_handed_in_stays(self):
        codes = [NUM, 0, NO_ROW]
        program = Program(codes, 2)
        for place in range(-1, 5):
            program.row_at(place)
            program.cause_at(place)
        self.assertEqual(codes, [NUM, 0, NO_ROW])

    def test_what_is_told_may_be_changed(self):
        program = Program([NUM])
        row = program.row_at(0)
        row.a = 1
        row.n = 2
        self.assertEqual(program.row_at(0).told(), ("num", 3, 7))
        self.assertIs(type(program.codes), tuple)


class Places(unittest.TestCase):
    def setUp(self):
        self.program = Program([NUM, NO_ROW, 0, 1])

    def test_rows(self):
        self.assertEqual(self.program.row_at(0).told(), ("num", 3, 7))
        self.assertIsInstance(self.program.row_at(2), Stop)
        self.assertEqual(self.program.cause_at(0), 0)
        self.assertEqual(self.program.cause_at(2), 0)

    def test_codes_that_are_no_rows(self):
        for place in (1, 3):
            self.assertIsNone(self.program.row_at(place))
            self.assertEqual(self.program.cause_at(place), 2)

    def test_places_at_which_no_code_stands(self):
        for place in (4, 5, 63, 64, 1023, 65535, 65536, 10 ** 30, -1, -2, -4, -5, -10 ** 30):
            self.assertIsNone(self.program.row_at(place), place)
            self.assertEqual(self.program.cause_at(place), 1, place)

    def test_no_codes_at_all(self):
        for place in (0, 1, -1):
            self.assertIsNone(Program([]).row_at(place))
            self.assertEqual(Program([]).cause_at(place), 1)

    def test_the_last_place(self):
        program = Program([NO_ROW] * 63 + [NUM])
        self.assertEqual(program.row_at(63).told(), ("num", 3, 7))
        self.assertEqual([program.cause_at(place) for place in (62, 63, 64)], [2, 0, 1])

    def test_the_hall_changes_nothing_there(self):
        program = Program([NUM], 5)
        self.assertEqual([program.cause_at(place) for place in (0, 1, 5)], [0, 1, 1])


if __name__ == "__main__":
    unittest.main()
