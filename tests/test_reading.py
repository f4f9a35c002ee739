import random
import unittest

from tests.row_samples import PAIR_WORDS, all_samples
from rowmill.codes import code_of
from rowmill.errors import NoText
from rowmill.jumps import Jump, Link, Zero
from rowmill.others import Tell
from rowmill.programs import Program
from rowmill.reading import read
from rowmill.rows import Load, Num, Pair, Plus, Stop, Store
from rowmill.writing import row_text, written


class Case(unittest.TestCase):
    def reads(self, text, rows, hall=None):
        program = read(text)
        self.assertIsInstance(program, Program)
        self.assertEqual(program.codes, tuple(row if isinstance(row, int) else code_of(row) for row in rows), text)
        self.assertEqual(program.hall, hall, text)

    def refused(self, text, at):
        with self.assertRaises(NoText, msg=text) as taken:
            read(text)
        self.assertIs(type(taken.exception.at), int)
        self.assertEqual(taken.exception.at, at, text)

    def row_refused(self, row):
        self.refused(row, 0)
        self.refused(row + "\n", 0)
        self.refused("stop\n\n" + row + "\nstop\n", 2)


class WrittenAndRead(Case):
    def check(self, codes, hall):
        program = Program(codes, hall)
        back = read(written(program))
        self.assertEqual((back.codes, back.hall), (program.codes, program.hall))

    def test_all_rows(self):
        codes = [code for _, _, code in all_samples()]
        for begin in range(0, len(codes), 64):
            self.check(codes[begin:begin + 64], None)
            self.check(codes[begin:begin + 64], begin % 1024)

    def test_codes_of_no_row(self):
        chance = random.Random(2)
        for many in (0, 1, 5, 63, 64):
            codes = [chance.choice((0, 1, 16777215, chance.randrange(16777216))) for _ in range(many)]
            for hall in (None, 0, 1, 64, 1023):
                self.check(codes, hall)


class Forms(Case):
    def test_each_row(self):
        for row, _, code in all_samples():
            self.reads(row_text(row), [code])

    def test_an_empty_text(self):
        for text in ("", "\n", "\n\n\n", " ", "  \n ", ";", "; stop", "  ;;\n;\n"):
            self.reads(text, [])

    def test_line_ends(self):
        for text in ("stop\ntell r1", "stop\ntell r1\n", "\nstop\n\n\ntell r1\n\n"):
            self.reads(text, [Stop(), Tell(1)])

    def test_blanks(self):
        self.reads("   add    r1 r2      r3   ", [Pair("add", 1, 2, 3)])
        self.reads(" \n  stop \n   \ntell  r1 ", [Stop(), Tell(1)])
        self.reads("  here:  \n jump   here  \n   hall    here ", [Jump(0)], 0)

    def test_remarks(self):
        self.reads("stop;", [Stop()])
        self.reads("stop ; stop", [Stop()])
        self.reads("num r1 5;6\n;num r1 7\n  ; hall 5\ntell r1 ;; ; :", [Num(1, 5), Tell(1)])
        self.reads("a:;b:\njump a;b", [Jump(0)])

    def test_noughts_ahead(self):
        self.reads("num r1 00000005\nplus r1 r2 00000511\nplus r1 r2 -00000512",
                   [Num(1, 5), Plus(1, 2, 511), Plus(1, 2, -512)])
        self.reads("jump 00\nzero r1 0001023\nhall 00001023\ncode 00000001", [Jump(0), Zero(1, 1023), 1], 1023)

    def test_nought_below_nought(self):
        for figures in ("-0", "-00", "-00000000"):
            self.reads(f"plus r1 r2 {figures}\nload r1 r2 {figures}\nstore r1 r2 {figures}",
                       [Plus(1, 2, 0), Load(1, 2, 0), Store(1, 2, 0)])

    def test_codes(self):
        self.reads("code 0\ncode 1\ncode 16777215\ncode 589829", [0, 1, 16777215, Num(1, 5)])

    def test_sixty_four(self):
        self.reads("stop\n" * 64, [Stop()] * 64)
        self.reads("stop\n" * 64 + "hall end\nend:\n\n;", [Stop()] * 64, 64)


class Labels(Case):
    def test_ahead_of_and_behind_their_use(self):
        self.reads("jump end\nhere:\nzero r1 here\nlink r2 end\nend:\nstop", [Jump(3), Zero(1, 1), Link(2, 3), Stop()])

    def test_at_the_end(self):
        self.reads("jump end\nend:", [Jump(1)])
        self.reads("jump end\nend:\n", [Jump(1)])

    def test_two_at_one_place(self):
        self.reads("stop\na:\nb:\njump a\njump b", [Stop(), Jump(1), Jump(1)])

    def test_rows_without_words_do_not_count(self):
        self.reads("\n;\nstop\n\nhall 5\n\na:\n;\njump a", [Stop(), Jump(1)], 5)

    def test_called_like_words(self):
        for name in ("add", "hall", "code", "r", "jump", "stop", "go", "home") + PAIR_WORDS:
            self.reads(f"stop\n{name}:\njump {name}\nzero r1 {name}\nlink r2 {name}\nhall {name}",
                       [Stop(), Jump(1), Zero(1, 1), Link(2, 1)], 1)

    def test_lengths_of_names(self):
        for name in ("a", "z", "abcdefgh", "zzzzzzzz"):
            self.reads(f"stop\n{name}:\njump {name}", [Stop(), Jump(1)])

    def test_of_code_rows(self):
        self.reads("code 1\na:\njump a", [1, Jump(1)])


class Halls(Case):
    def test_anywhere(self):
        for text in ("hall 3\nstop\nstop", "stop\nhall 3\nstop", "stop\nstop\nhall 3"):
            self.reads(text, [Stop(), Stop()], 3)

    def test_bounds(self):
        for hall in (0, 1, 1023):
            self.reads(f"hall {hall}", [], hall)

    def test_labels(self):
        self.reads("hall a\nstop\na:\nstop", [Stop(), Stop()], 1)
        self.reads("stop\na:\nhall a", [Stop()], 1)


class Refused(Case):
    def test_words_that_are_none(self):
        for row in ("x", "STOP", "Stop", "stop.", "nums r1 5", "pair r1 r2 r3", "r1", "5", "-", "a : b", ":", "hall:5", "%"):
            self.row_refused(row)

    def test_too_few(self):
        for row in ("num", "num r1", "plus r1 r2", "add r1 r2", "load r1 5", "store r1 r2", "jump", "zero r1", "link r1",
                    "go", "ask", "tell", "why", "where", "aim", "code", "hall"):
            self.row_refused(row)

    def test_too_many(self):
        for row in ("stop 0", "stop r0", "num r1 5 5", "plus r1 r2 3 3", "add r1 r2 r3 r4", "load r1 r2 3 4",
                    "store r1 r2 3 4", "jump 1 2", "zero r1 2 3", "link r1 2 3", "go r1 r2", "ask r1 r1", "tell r1 r2",
                    "why r1 r2", "where r1 r1", "aim r1 1", "home r1", "home home", "code 1 1", "hall 1 1", "a: stop",
                    "a: b:", "stop a:"):
            self.row_refused(row)

    def test_boxes_that_are_none(self):
        for box in ("r8", "r9", "r", "r00", "r01", "r10", "R1", "1", "r-1", "r1r", "rr1", "-r1", "a", "r1,"):
            for row in ("num {} 5", "plus r1 {} 5", "plus {} r1 5", "add r1 r2 {}", "add r1 {} r2", "add {} r1 r2",
                        "load {} r1 0", "load r1 {} 0", "store {} r1 0", "store r1 {} 0", "zero {} 1", "link {} 1",
                        "go {}", "ask {}", "tell {}", "why {}", "where {}", "aim {}"):
                self.row_refused(row.format(box))

    def test_numbers_beyond_their_bounds(self):
        for row in ("num r1 1024", "num r1 99999999", "plus r1 r2 512", "plus r1 r2 -513", "load r1 r2 512",
                    "load r1 r2 -513", "store r1 r2 512", "store r1 r2 -99999999", "jump 1024", "zero r1 1024",
                    "link r1 1024", "hall 1024", "code 16777216", "code 99999999"):
            self.row_refused(row)

    def test_nine_figures(self):
        for row in ("num r1 000000005", "plus r1 r2 000000005", "plus r1 r2 -000000005", "jump 000000001",
                    "zero r1 000000001", "link r1 000000001", "hall 000000001", "code 000000001", "load r1 r2 000000000",
                    "num r1 " + "0" * 3000):
            self.row_refused(row)

    def test_signs_where_none_may_stand(self):
        for row in ("num r1 -1", "num r1 -0", "num r1 +1", "plus r1 r2 +1", "plus r1 r2 --1", "plus r1 r2 -",
                    "plus r1 r2 - 1", "plus r1 r2 1-", "load r1 r2 -+1", "store r1 r2 -a", "jump -1", "jump -0",
                    "zero r1 -0", "link r1 -1", "hall -0", "hall -1", "code -1", "code -0", "num r1 1_0", "num r1 1.0",
                    "num r1 0x1", "code 1e3", "plus r1 r2 a", "num r1 a", "code a", "load r1 r2 a", "jump -a"):
            self.row_refused(row)

    def test_names_that_are_none(self):
        for name in ("abcdefghi", "A", "aB", "a1", "1", "a_b", "a-b", "r1", "", "a.", "a:"):
            self.row_refused(name + ":")
            self.refused(f"stop\nhall {name}:\n", 1)
        for name in ("abcdefghi", "A", "aB", "a1", "a_b", "a-b", "r1", "a:", "a."):
            for row in ("jump ", "zero r1 ", "link r1 ", "hall "):
                self.row_refused(row + name)

    def test_labels_where_only_numbers_may_stand(self):
        for row in ("num r1 a", "plus r1 r2 a", "load r1 r2 a", "store r1 r2 a", "code a", "add r1 r2 a", "go a", "tell a"):
            self.refused("stop\na:\n" + row + "\nwrong", 2)

    def test_a_label_told_twice(self):
        self.refused("a:\nstop\na:", 2)
        self.refused("a:\na:\nwrong", 1)
        self.refused("\n;\nhall:\nhall 5\nhall:", 4)

    def test_a_second_hall(self):
        self.refused("hall 5\nhall 5", 1)
        self.refused("hall 5\nstop\nhall a\na:", 2)

    def test_a_sixty_fifth_code(self):
        self.refused("stop\n" * 65, 64)
        self.refused("\nstop\n" * 64 + "code 5", 128)
        self.refused("hall 3\n" + "code 1\n" * 64 + "a:\nstop", 66)

    def test_the_first_of_several(self):
        self.refused("stop\nwrong\nnum r9 5\n", 1)
        self.refused("stop\nnum r1 1024\nhall 1\nhall 1", 1)
        self.refused("hall 1\nhall 1\nwrong", 1)
        self.refused("stop\n" * 64 + "a:\na:\nstop", 65)
        self.refused("stop\n" * 65 + "wrong", 64)

    def test_labels_that_are_nowhere_told(self):
        self.refused("jump a", 0)
        self.refused("stop\nzero r1 a", 1)
        self.refused("stop\n\nlink r1 a\nb:", 2)
        self.refused("stop\nhall a", 1)

    def test_the_first_row_that_names_one(self):
        self.refused("b:\njump b\nstop\njump c\njump a", 3)
        self.refused("jump b\nb:\nhall x\njump y", 2)
        self.refused("jump x\nhall y", 0)
        self.refused("hall y\njump x", 0)
        self.refused("stop\njump x\nhall y\n", 1)

    def test_only_where_all_rows_can_stand(self):
        self.refused("jump a\nstop\nwrong", 2)
        self.refused("hall a\nstop\nhall 5", 2)
        self.refused("jump b\na:\na:", 2)
        self.refused("jump b\n" + "stop\n" * 64, 64)

    def test_what_is_refused_leaves_nothing(self):
        self.refused("a:\njump b", 1)
        self.reads("a:\njump a", [Jump(0)])


if __name__ == "__main__":
    unittest.main()
