import unittest

from tests.row_samples import PAIR_WORDS, all_samples
from rowmill.codes import code_of
from rowmill.jumps import Go, Jump, Link, Zero
from rowmill.others import Aim, Ask, Home, Tell, Where, Why
from rowmill.programs import Program
from rowmill.rows import Load, Num, Pair, Plus, Stop, Store
from rowmill.writing import row_text, written


class RowText(unittest.TestCase):
    def test_one_of_each_kind_by_hand(self):
        for row, text in (
            (Stop(), "stop"),
            (Num(1, 1023), "num r1 1023"),
            (Num(0, 0), "num r0 0"),
            (Plus(7, 2, -512), "plus r7 r2 -512"),
            (Plus(7, 2, 0), "plus r7 r2 0"),
            (Plus(7, 2, 511), "plus r7 r2 511"),
            (Load(1, 5, -1), "load r1 r5 -1"),
            (Store(6, 0, 9), "store r6 r0 9"),
            (Jump(0), "jump 0"),
            (Zero(4, 63), "zero r4 63"),
            (Link(3, 1000), "link r3 1000"),
            (Go(7), "go r7"),
            (Ask(1), "ask r1"),
            (Tell(2), "tell r2"),
            (Why(3), "why r3"),
            (Where(4), "where r4"),
            (Aim(5), "aim r5"),
            (Home(), "home"),
        ):
            self.assertEqual(row_text(row), text)

    def test_the_twelve_words(self):
        for word in PAIR_WORDS:
            self.assertEqual(row_text(Pair(word, 0, 7, 4)), word + " r0 r7 r4")

    def test_each_box(self):
        for box in range(8):
            self.assertEqual(row_text(Pair("add", box, 7 - box, box)), f"add r{box} r{7 - box} r{box}")

    def test_all_forms(self):
        boxes = {"plus": 2, "load": 2, "store": 2, "jump": 0}
        boxes.update({word: 3 for word in PAIR_WORDS})
        for row, told, _ in all_samples():
            many = boxes.get(told[0], 1)
            words = [told[0]]
            words += [("r%d" if k < many else "%d") % thing for k, thing in enumerate(told[1:])]
            self.assertEqual(row_text(row), " ".join(words))


class Written(unittest.TestCase):
    def test_rows_and_a_hall(self):
        rows = [Num(1, 5), Pair("mul", 2, 1, 1), Plus(3, 2, -4), Home()]
        codes = [code_of(row) for row in rows]
        text = "num r1 5\nmul r2 r1 r1\nplus r3 r2 -4\nhome\n"
        self.assertEqual(written(Program(codes)), text)
        self.assertEqual(written(Program(tuple(codes), 2)), "hall 2\n" + text)

    def test_halls(self):
        for hall in (0, 63, 64, 1023):
            self.assertEqual(written(Program([0], hall)), f"hall {hall}\nstop\n")

    def test_no_codes(self):
        self.assertEqual(written(Program([])), "")
        self.assertEqual(written(Program((), 0)), "hall 0\n")

    def test_codes_that_are_no_rows(self):
        self.assertEqual(written(Program([1, 16777215, 0])), "code 1\ncode 16777215\nstop\n")
        self.assertEqual(written(Program([27 * 524288], 1)), "hall 1\ncode 14155776\n")

    def test_one_line_end_behind_each_row(self):
        for many in (1, 2, 64):
            text = written(Program([code_of(Tell(1))] * many))
            self.assertEqual(text, "tell r1\n" * many)

    def test_asked_again_it_is_the_same(self):
        program = Program([0, 1], 7)
        self.assertEqual(written(program), written(program))


if __name__ == "__main__":
    unittest.main()
