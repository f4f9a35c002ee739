import unittest

from tests.row_checks import check_row
from rowmill.rows import Load, Num, Pair, Plus, Row, Stop, Store

WORDS = ("add", "sub", "mul", "div", "rest", "and", "or", "xor", "up", "down", "low", "same")
EDGES = (0, 1, 2, 3, 7, 15, 16, 17, 31, 255, 256, 32767, 32768, 65534, 65535)


def by_hand(word, b, c):
    """The twelve words reckoned another way: by whole parts and rests alone."""
    if word in ("div", "rest"):
        return None if c == 0 else divmod(b, c)[word == "rest"]
    if word in ("add", "sub", "mul"):
        return {"add": b + c, "sub": b - c + 65536, "mul": b * c}[word] % 65536
    if word in ("up", "down"):
        power = 2 ** (c % 16)
        return b * power % 65536 if word == "up" else b // power
    if word in ("low", "same"):
        return int(b < c) if word == "low" else int(b == c)
    wanted = {"and": (2,), "or": (1, 2), "xor": (1,)}[word]
    return sum(2 ** k for k in range(16) if b // 2 ** k % 2 + c // 2 ** k % 2 in wanted)


class Each(unittest.TestCase):
    def test_stop(self):
        check_row(self, Stop(), {}, (), 5, told=("stop",))

    def test_num(self):
        for n in (0, 1, 1022, 1023):
            check_row(self, Num(3, n), {"a": 3, "n": n}, (), 5,
                      told=("num", 3, n), gives=3, known="reckon", reckoned=n)

    def test_plus(self):
        for n in (-512, -1, 0, 1, 511):
            check_row(self, Plus(7, 2, n), {"a": 7, "b": 2, "n": n}, (1000,), 0,
                      told=("plus", 7, 2, n), reads=(2,), gives=7, known="reckon", reckoned=1000 + n)

    def test_pair(self):
        longs = {"mul": 3, "div": 5, "rest": 5}
        for word in WORDS:
            check_row(self, Pair(word, 1, 6, 4), {"word": word, "a": 1, "b": 6, "c": 4}, (500, 3), 63,
                      told=(word, 1, 6, 4), reads=(6, 4), gives=1, known="reckon",
                      long=longs.get(word, 1), reckoned=by_hand(word, 500, 3))

    def test_load(self):
        for n in (-512, -1, 0, 1, 511):
            check_row(self, Load(1, 5, n), {"a": 1, "b": 5, "n": n}, (600,), 9,
                      told=("load", 1, 5, n), reads=(5,), gives=1, known="memory", reckoned=600 + n)

    def test_store(self):
        for n in (-512, -1, 0, 1, 511):
            check_row(self, Store(1, 5, n), {"a": 1, "b": 5, "n": n}, (9, 600), 9,
                      told=("store", 1, 5, n), reads=(1, 5), reckoned=600 + n)

    def test_row_itself(self):
        plain = Row()
        self.assertIsNone(plain.told())
        self.assertIsNone(plain.gives())
        self.assertIsNone(plain.known())
        self.assertEqual(plain.reads(), ())
        self.assertIs(plain.alone(), False)
        self.assertEqual((plain.long(), plain.reckoned((), 4), plain.goal((), 4)), (1, 0, 5))


class BoxNought(unittest.TestCase):
    def test_what_is_given_to_box_nought_is_given_to_none(self):
        rows = [Num(0, 7), Plus(0, 1, 1), Load(0, 1, 1)] + [Pair(word, 0, 1, 2) for word in WORDS]
        for row in rows:
            with self.subTest(row.told()):
                self.assertIsNone(row.gives())
                self.assertIsNone(row.known())

    def test_each_other_box_is_told(self):
        for box in range(1, 8):
            for row in (Num(box, 7), Plus(box, 0, 1), Load(box, 0, 1), Pair("add", box, 0, 0)):
                self.assertEqual(row.gives(), box)

    def test_store_gives_to_none(self):
        for box in range(8):
            self.assertIsNone(Store(box, 1, 0).gives())
            self.assertIsNone(Store(box, 1, 0).known())

    def test_box_nought_is_read_as_it_stands(self):
        self.assertEqual(Plus(1, 0, 5).reads(), (0,))
        self.assertEqual(Pair("add", 1, 0, 0).reads(), (0, 0))
        self.assertEqual(Load(1, 0, 5).reads(), (0,))
        self.assertEqual(Store(0, 0, 5).reads(), (0, 0))

    def test_a_fault_is_told_of_box_nought_too(self):
        self.assertIsNone(Pair("div", 0, 1, 2).reckoned((4, 0), 0))
        self.assertIsNone(Pair("rest", 0, 1, 2).reckoned((4, 0), 0))


class Reckoned(unittest.TestCase):
    def test_the_twelve_words(self):
        for word in WORDS:
            row = Pair(word, 1, 2, 3)
            for b in EDGES:
                for c in EDGES:
                    answer = row.reckoned((b, c), 0)
                    self.assertEqual(answer, by_hand(word, b, c), (word, b, c))
                    self.assertIs(type(answer), type(by_hand(word, b, c)))

    def test_beyond_a_word(self):
        for word, b, c, asked in (
            ("add", 65535, 1, 0), ("add", 65535, 65535, 65534), ("sub", 0, 1, 65535), ("sub", 1, 65535, 2),
            ("mul", 256, 256, 0), ("mul", 65535, 65535, 1), ("mul", 65535, 2, 65534),
        ):
            self.assertEqual(Pair(word, 1, 2, 3).reckoned((b, c), 0), asked, (word, b, c))

    def test_by_nought(self):
        for b in (0, 1, 65535):
            self.assertIsNone(Pair("div", 1, 2, 3).reckoned((b, 0), 0))
            self.assertIsNone(Pair("rest", 1, 2, 3).reckoned([b, 0], 0))
            self.assertEqual(Pair("mul", 1, 2, 3).reckoned((b, 0), 0), 0)

    def test_whole_part_and_rest(self):
        for b, c, whole, left in ((7, 2, 3, 1), (2, 7, 0, 2), (65535, 1, 65535, 0), (65535, 65535, 1, 0), (0, 5, 0, 0)):
            self.assertEqual(Pair("div", 1, 2, 3).reckoned((b, c), 0), whole)
            self.assertEqual(Pair("rest", 1, 2, 3).reckoned((b, c), 0), left)

    def test_up_and_down(self):
        for b, c, up, down in (
            (0x8001, 0, 0x8001, 0x8001), (0x8001, 1, 2, 0x4000), (0x8001, 15, 0x8000, 1), (0x8001, 16, 0x8001, 0x8001),
            (0x8001, 17, 2, 0x4000), (65535, 4, 0xFFF0, 0x0FFF), (65535, 65535, 0x8000, 1), (3, 31, 0x8000, 0),
        ):
            self.assertEqual(Pair("up", 1, 2, 3).reckoned((b, c), 0), up, (b, c))
            self.assertEqual(Pair("down", 1, 2, 3).reckoned((b, c), 0), down, (b, c))

    def test_low_and_same(self):
        for b, c, low, same in ((1, 2, 1, 0), (2, 1, 0, 0), (2, 2, 0, 1), (0, 0, 0, 1), (0, 65535, 1, 0), (65535, 0, 0, 0)):
            self.assertEqual(Pair("low", 1, 2, 3).reckoned((b, c), 0), low, (b, c))
            self.assertEqual(Pair("same", 1, 2, 3).reckoned((b, c), 0), same, (b, c))

    def test_plus_beyond_a_word(self):
        for b, n, asked in ((0, -1, 65535), (0, -512, 65024), (65535, 1, 0), (65535, 511, 510), (65535, 0, 65535)):
            self.assertEqual(Plus(1, 2, n).reckoned((b,), 0), asked, (b, n))

    def test_addresses(self):
        for b, n, asked in (
            (0, 0, 0), (60, 3, 63), (10, -4, 6), (0, -1, 65535), (0, -512, 65024), (65535, 1, 0), (65535, 511, 510),
        ):
            self.assertEqual(Load(1, 2, n).reckoned((b,), 0), asked, (b, n))
            self.assertEqual(Load(1, 2, n).reckoned([b], 0), asked, (b, n))
            self.assertEqual(Store(1, 2, n).reckoned((777, b), 0), asked, (b, n))
            self.assertEqual(Store(1, 2, n).reckoned([777, b], 0), asked, (b, n))


class Goal(unittest.TestCase):
    def test_rows_that_go_nowhere(self):
        rows = [(Stop(), ()), (Num(1, 9), ()), (Plus(1, 2, 9), (0,)), (Load(1, 2, 9), (0,)), (Store(1, 2, 9), (0, 0))]
        rows += [(Pair(word, 1, 2, 3), (0, 0)) for word in WORDS]
        for row, words in rows:
            for place in (0, 1, 62, 63, 1023):
                self.assertEqual(row.goal(words, place), place + 1, row.told())


if __name__ == "__main__":
    unittest.main()
