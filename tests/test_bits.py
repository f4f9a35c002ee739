import unittest

from rowmill.bits import bits_of, signed, with_bits

# op, a, b, c, n of a code: where their bits begin, and how many there are.
FIELDS = ((19, 5), (16, 3), (13, 3), (10, 3), (0, 10))
CODE = (0b10110 << 19) | (0b101 << 16) | (0b011 << 13) | (0b110 << 10) | 0b1000000001


def slow_bits(number, low, many):
    """The same by whole parts and rests, for numbers from 0 on."""
    return number // 2 ** low % 2 ** many


class BitsOf(unittest.TestCase):
    def test_parts_of_a_code(self):
        self.assertEqual([bits_of(CODE, low, many) for low, many in FIELDS], [22, 5, 3, 6, 513])

    def test_least_and_greatest_code(self):
        for low, many in FIELDS:
            self.assertEqual(bits_of(0, low, many), 0)
            self.assertEqual(bits_of(16777215, low, many), 2 ** many - 1)

    def test_single_bits(self):
        for low in range(24):
            for number in (0, CODE, 16777215, 2 ** low, 2 ** low - 1):
                self.assertEqual(bits_of(number, low, 1), number // 2 ** low % 2)

    def test_against_whole_parts_and_rests(self):
        for number in (0, 1, 2, 5, 1023, 1024, CODE, 16777215, 2 ** 24, 2 ** 70 + 12345, 3 ** 100):
            for low in (0, 1, 9, 10, 19, 23, 24, 40, 69, 70, 71, 200):
                for many in (1, 2, 3, 10, 24, 25, 64, 100, 300):
                    self.assertEqual(bits_of(number, low, many), slow_bits(number, low, many))

    def test_above_twenty_four_bits(self):
        self.assertEqual(bits_of(0b1011 << 24, 24, 4), 11)
        self.assertEqual(bits_of(0b1011 << 24, 25, 2), 1)
        self.assertEqual(bits_of(0b1011 << 24, 23, 5), 22)
        self.assertEqual(bits_of(16777216, 0, 24), 0)

    def test_more_bits_than_the_number_has(self):
        self.assertEqual(bits_of(5, 0, 3), 5)
        self.assertEqual(bits_of(5, 0, 4), 5)
        self.assertEqual(bits_of(5, 1, 1000), 2)
        self.assertEqual(bits_of(CODE, 0, 10 ** 30), CODE)
        self.assertEqual(bits_of(CODE, 10 ** 30, 3), 0)


class WithBits(unittest.TestCase):
    def test_parts_of_a_code(self):
        code = 0
        for (low, many), part in zip(FIELDS, (22, 5, 3, 6, 513)):
            code = with_bits(code, low, many, part)
        self.assertEqual(code, CODE)

    def test_only_these_bits_change(self):
        for number in (0, CODE, 16777215, 2 ** 40 + 7, 3 ** 60):
            for low, many in FIELDS + ((0, 1), (23, 1), (22, 4), (30, 8), (120, 3), (0, 200)):
                for part in (0, 1, 2, 5, 1023, 2 ** many - 1):
                    self.check(number, low, many, part)

    def check(self, number, low, many, part):
        answer = with_bits(number, low, many, part)
        for bit in range(max(low + many, number.bit_length()) + 2):
            if low <= bit < low + many:
                asked = part // 2 ** (bit - low) % 2
            else:
                asked = number // 2 ** bit % 2
            self.assertEqual(answer // 2 ** bit % 2, asked, (number, low, many, part, bit))
        self.assertLess(answer, 2 ** max(low + many, number.bit_length()))
        self.assertGreaterEqual(answer, 0)

    def test_a_part_too_large(self):
        self.assertEqual(with_bits(0, 0, 3, 8), 0)
        self.assertEqual(with_bits(0, 4, 3, 13), 5 << 4)
        for low, many in FIELDS:
            for part in (2 ** many, 2 ** many + 1, 2 ** 24 - 1, 3 ** 50):
                self.check(CODE, low, many, part)

    def test_a_part_below_nought(self):
        self.assertEqual(with_bits(0, 0, 10, -1), 1023)
        self.assertEqual(with_bits(0, 0, 10, -512), 512)
        self.assertEqual(with_bits(16777215, 0, 10, -512), 16777215 - 511)
        self.assertEqual(with_bits(0, 3, 1, -1), 8)
        self.assertEqual(with_bits(0, 3, 1, -2), 0)

    def test_a_part_far_below_nought(self):
        self.assertEqual(with_bits(0, 0, 10, -1025), 1023)
        self.assertEqual(with_bits(0, 0, 10, -1024), 0)
        self.assertEqual(with_bits(0, 10, 3, -8 * 10 ** 40 - 3), 5 << 10)
        for low, many in FIELDS:
            for part in (-1, -2, -(2 ** many), -(2 ** many) - 1, -(3 ** 50)):
                self.check(CODE, low, many, part)

    def test_many_bits(self):
        self.assertEqual(with_bits(CODE, 0, 10 ** 30, 9), 9)
        self.assertEqual(with_bits(CODE, 10 ** 30, 3, 0), CODE)

    def test_what_is_put_is_told(self):
        for low, many in FIELDS:
            for part in range(2 ** many):
                self.assertEqual(bits_of(with_bits(CODE, low, many, part), low, many), part)


class Signed(unittest.TestCase):
    def test_the_documents_own(self):
        self.assertEqual(signed(1023, 10), -1)
        self.assertEqual(signed(512, 10), -512)
        self.assertEqual(signed(511, 10), 511)
        self.assertEqual(signed(0, 10), 0)

    def test_one_bit(self):
        self.assertEqual(signed(0, 1), 0)
        self.assertEqual(signed(1, 1), -1)

    def test_each_part(self):
        for many in (1, 2, 3, 10):
            half = 2 ** (many - 1)
            told = [signed(part, many) for part in range(2 * half)]
            self.assertEqual(told, list(range(half)) + list(range(-half, 0)))

    def test_many_bits(self):
        self.assertEqual(signed(2 ** 99, 100), -(2 ** 99))
        self.assertEqual(signed(2 ** 99 - 1, 100), 2 ** 99 - 1)
        self.assertEqual(signed(2 ** 100 - 1, 100), -1)
        self.assertEqual(signed(1023, 11), 1023)

    def test_way_back(self):
        for number in range(-512, 512):
            self.assertEqual(signed(with_bits(0, 0, 10, number), 10), number)


if __name__ == "__main__":
    unittest.main()
