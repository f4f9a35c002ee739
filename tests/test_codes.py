import random
import unittest

from tests.row_checks import fields_of
from tests.row_samples import OPS, all_samples, samples, spare_bits
from rowmill.codes import code_of, row_of
from rowmill.jumps import Go, Jump, Link, Zero
from rowmill.others import Aim, Ask, Home, Tell, Where, Why
from rowmill.rows import Load, Num, Pair, Plus, Row, Stop, Store


class CodeOf(unittest.TestCase):
    def test_one_of_each_kind_by_hand(self):
        for row, code in (
            (Stop(), 0),
            (Num(7, 1023), 0b00001_111_000_000_1111111111),
            (Plus(1, 2, -1), 0b00010_001_010_000_1111111111),
            (Plus(1, 2, -512), 0b00010_001_010_000_1000000000),
            (Plus(1, 2, 511), 0b00010_001_010_000_0111111111),
            (Pair("add", 1, 2, 3), 0b00011_001_010_011_0000000000),
            (Pair("same", 7, 7, 7), 0b01110_111_111_111_0000000000),
            (Load(1, 2, 3), 0b01111_001_010_000_0000000011),
            (Store(4, 5, -2), 0b10000_100_101_000_1111111110),
            (Jump(9), 0b10001_000_000_000_0000001001),
            (Zero(6, 63), 0b10010_110_000_000_0000111111),
            (Link(2, 512), 0b10011_010_000_000_1000000000),
            (Go(5), 0b10100_101_000_000_0000000000),
            (Ask(1), 0b10101_001_000_000_0000000000),
            (Tell(2), 0b10110_010_000_000_0000000000),
            (Why(3), 0b10111_011_000_000_0000000000),
            (Where(4), 0b11000_100_000_000_0000000000),
            (Aim(5), 0b11001_101_000_000_0000000000),
            (Home(), 0b11010_000_000_000_0000000000),
        ):
            self.assertEqual(code_of(row), code, row.told())

    def test_each_op_at_its_bounds(self):
        for row, told, code in all_samples():
            self.assertEqual(row.told(), told)
            self.assertEqual(code_of(row), code, told)

    def test_each_row_has_another_code(self):
        codes = [code_of(row) for row, _, _ in all_samples()]
        self.assertEqual(len(set(codes)), len(codes))

    def test_a_code_is_within_its_bounds(self):
        for row, _, _ in all_samples():
            self.assertTrue(0 <= code_of(row) <= 16777215)


class RowOf(unittest.TestCase):
    def test_each_row_is_read_back(self):
        for row, told, code in all_samples():
            back = row_of(code)
            self.assertIsInstance(back, Row)
            self.assertIs(type(back), type(row))
            self.assertEqual(back.told(), told)
            self.assertEqual(fields_of(back), fields_of(row))
            self.assertEqual(code_of(back), code)

    def test_something_where_the_row_has_nothing(self):
        for op in range(27):
            for _, told, code in samples(op):
                for bit in spare_bits(op):
                    self.assertIsNone(row_of(code | 1 << bit), (told, bit))

    def test_all_such_bits_together(self):
        for op in range(27):
            bits = spare_bits(op)
            if bits:
                self.assertIsNone(row_of(op * 524288 + sum(1 << bit for bit in bits)), OPS[op][0])

    def test_spare_bits_by_hand(self):
        self.assertEqual(len(spare_bits(0)), 19)
        self.assertEqual(spare_bits(1), [10, 11, 12, 13, 14, 15])
        self.assertEqual(spare_bits(2), [10, 11, 12])
        self.assertEqual(spare_bits(3), list(range(10)))
        self.assertEqual(spare_bits(17), list(range(10, 19)))
        self.assertEqual(spare_bits(20), list(range(16)))

    def test_ops_above_the_last(self):
        for op in range(27, 32):
            for low in [0, 1, 524287] + [1 << bit for bit in range(19)]:
                self.assertIsNone(row_of(op * 524288 + low), (op, low))

    def test_least_and_greatest(self):
        self.assertIsInstance(row_of(0), Stop)
        self.assertIsNone(row_of(16777215))
        self.assertIsNone(row_of(1))

    def test_each_code_is_one_row_or_none(self):
        chance = random.Random(1)
        rows = 0
        for code in [chance.randrange(16777216) for _ in range(20000)]:
            row = row_of(code)
            if row is not None:
                rows += 1
                self.assertEqual(code_of(row), code)
        self.assertGreater(rows, 100)

    def test_all_numbers_of_a_row(self):
        for n in range(1024):
            self.assertEqual(row_of(524288 + n).told(), ("num", 0, n))
            self.assertEqual(row_of(15 * 524288 + n).told(), ("load", 0, 0, n if n < 512 else n - 1024))

    def test_what_is_told_is_the_askers_own(self):
        first = row_of(524288 + 65536 + 7)
        first.n = 9
        self.assertEqual(row_of(524288 + 65536 + 7).told(), ("num", 1, 7))


if __name__ == "__main__":
    unittest.main()
