import random
import unittest

from tests.mill_programs import ALL, CALLS
from rowmill.desk import answered
from rowmill.mill import Mill
from rowmill.reading import read

OF_A_MILL = ("step 1", "boxes", "look 0", "said", "end", "log", "gaps", "steps", "keep a", "plain")


def rows_text(text):
    return "".join(f"row {row}\n" for row in text.split("\n"))


class Case(unittest.TestCase):
    def answers(self, pairs):
        """Rows and their answers, one behind the other."""
        told = answered("\n".join(row for row, _ in pairs))
        self.assertEqual(list(zip([row for row, _ in pairs], told)), pairs)
        self.assertEqual(len(told), len(pairs))

    def refused(self, row, name, ahead=""):
        """Refused, and nothing is changed by it: what comes behind is answered as if it hadn't been."""
        behind = "mill\nstep 40\nboxes\nsaid\nlook 0\nend\nlog\ngaps\nsteps\nplain"
        looks = "boxes\nsaid\nlook 0\nend\nlog\nsteps\nwake a\nwake b\nboxes\n"
        first = answered(ahead)
        with self.subTest(row=row, ahead=ahead):
            self.assertEqual(answered(ahead + row), first + [f"refused: {name}"])
            told = answered(ahead + row + "\n" + looks + behind)
            self.assertEqual(told[len(first) + 1:], answered(ahead + looks + behind)[len(first):])


class Told(Case):
    def test_kinds(self):
        self.assertEqual(answered(""), [])
        told = answered("mill\nstep 5\nboxes")
        self.assertIs(type(told), list)
        self.assertEqual([type(answer) for answer in told], [str] * 3)

    def test_at_first(self):
        self.answers([
            ("mill", "ok"), ("boxes", "0 0 0 0 0 0 0 0"), ("said", "none"), ("end", "on"), ("log", "none"),
            ("gaps", "none"), ("steps", "0"), ("plain", "alike"), ("look 0", "0"), ("look 1", "0"), ("look 2", "0"),
            ("look 3", "0"), ("look 4", "refused: NoPlace"), ("step 200", "6"), ("end", "lost"), ("log", "fault 0 1"), ("gaps", "fill 5"),
            ("step 200", "0"), ("step 0", "0"), ("steps", "6"), ("plain", "alike"),
        ])

    def test_a_program(self):
        self.answers([
            ("row hall h", "ok"), ("row ask r1", "ok"), ("row mul r2 r1 r1  ; twice", "ok"), ("row store r2 r0 5", "ok"),
            ("row tell r2", "ok"), ("row tell r1", "ok"), ("row div r1 r1 r0", "ok"), ("row stop", "ok"), ("row h:", "ok"),
            ("row where r7", "ok"), ("row plus r7 r7 1", "ok"), ("row aim r7", "ok"), ("row home", "ok"),
            ("cells 8", "ok"), ("cell 5 77", "ok"), ("cell 4 65535", "ok"), ("input 6", "ok"), ("call 12 3", "ok"),
            ("mill", "ok"), ("step 5", "5"), ("steps", "5"), ("gaps", "fill 5"), ("log", "none"), ("look 5", "77"),
            ("look 4", "65535"), ("step 1", "1"), ("log", "done 0"), ("boxes", "0 6 0 0 0 0 0 0"), ("plain", "alike"),
            ("step 200", "55"), ("end", "stop"), ("said", "36 6"), ("look 5", "77"),
            ("log", "done 0; done 1; call 3 2; done 7; done 8; done 9; done 10; done 3; done 4; fault 5 3; done 7; done 8; "
                    "done 9; done 10; done 6"),
            ("boxes", "0 6 36 0 0 0 0 6"), ("gaps", "fill 5, turn 20, hold 6, alone 8, slow 6, miss 2"), ("steps", "61"),
            ("plain", "alike"),
        ])

    def test_rows_without_a_word(self):
        self.assertEqual(answered("\n\n  \nmill\n\n    \nend\n\n"), ["ok", "on"])
        self.assertEqual(answered("   \n"), [])

    def test_blanks(self):
        self.answers([
            ("   row    num   r1   5  ", "ok"), ("row  tell r1", "ok"), ("row stop", "ok"), ("  cells   4 ", "ok"),
            ("cell   0    9 ", "ok"), ("  input  1   2  ", "ok"), ("  mill  ", "ok"), ("  step   200 ", "8"), (" said ", "5"),
            ("  keep   a ", "ok"), (" wake  a", "ok"), (" look   0 ", "9"), ("  end", "stop"),
        ])

    def test_noughts_ahead(self):
        self.answers([
            ("cells 00000008", "ok"), ("cell 07 00065535", "ok"), ("input 000 01", "ok"), ("call 00000005 0015", "ok"),
            ("mill", "ok"), ("step 00000003", "3"), ("look 00007", "65535"), ("step 0", "0"), ("steps", "3"),
        ])

    def test_gaps_in_order(self):
        rows = rows_text("load r1 r0 0\nplus r1 r1 1\nmul r1 r1 r1\naim r1\njump a\nstop\na:\ncode 1")
        self.assertEqual(answered(rows + "mill\nstep 200\ngaps\nend")[-2:],
                         ["fill 5, guess 2, hold 1, alone 2, slow 2, miss 4", "lost"])


class Rows(Case):
    def test_rows_are_read_only_at_mill(self):
        self.answers([
            ("row wrong", "ok"), ("mill", "refused: NoText"), ("end", "refused: NoMill"), ("mill", "refused: NoText"),
        ])
        self.answers([
            ("row jump a", "ok"), ("mill", "refused: NoText"), ("row a:", "ok"), ("mill", "ok"), ("row a:", "ok"),
            ("mill", "refused: NoText"), ("end", "on"), ("step 7", "7"), ("log", "done 0; fault 1 1"),
        ])

    def test_rows_without_words_and_remarks(self):
        self.answers([("row ;", "ok"), ("row ; stop", "ok"), ("row    ;x", "ok"), ("row stop;", "ok"), ("mill", "ok"),
                      ("step 9", "6"), ("log", "done 0")])

    def test_sixty_four_and_one_more(self):
        told = answered("row stop\n" * 64 + "mill\nrow stop\nmill\nend")
        self.assertEqual(told[-4:], ["ok", "ok", "refused: NoText", "on"])

    def test_rows_called_like_the_desks(self):
        self.answers([("row mill:", "ok"), ("row jump mill", "ok"), ("row row:", "ok"), ("mill", "ok"), ("step 6", "6"),
                      ("log", "done 0")])


class Mills(Case):
    def test_what_is_told_behind_is_for_the_next_one(self):
        self.answers([
            ("row load r1 r0 0", "ok"), ("row ask r2", "ok"), ("cell 0 5", "ok"), ("input 6", "ok"), ("mill", "ok"),
            ("cell 0 9", "ok"), ("input 7", "ok"), ("row tell r1", "ok"), ("row stop", "ok"), ("call 0 1", "ok"),
            ("row hall 2", "ok"), ("look 0", "5"), ("step 200", "12"), ("boxes", "0 5 6 0 0 0 0 0"), ("end", "lost"),
            ("log", "done 0; done 1; fault 2 1"), ("plain", "alike"),
            ("mill", "ok"), ("end", "on"), ("log", "none"), ("steps", "0"), ("look 0", "9"), ("boxes", "0 0 0 0 0 0 0 0"),
            ("step 200", "8"), ("log", "call 1 0; done 2; done 3"), ("end", "stop"), ("said", "0"), ("plain", "alike"),
        ])

    def test_cells_anew(self):
        self.answers([
            ("cell 0 5", "ok"), ("cells 4", "ok"), ("mill", "ok"), ("look 0", "0"), ("cells 64", "ok"), ("cell 63 5", "ok"),
            ("look 3", "0"), ("look 4", "refused: NoPlace"), ("mill", "ok"), ("look 63", "5"), ("look 64", "refused: NoPlace"),
        ])

    def test_cells_of_each_size(self):
        for many in range(70):
            good = many in range(4, 65, 4)
            self.assertEqual(answered(f"cells {many}"), ["ok" if good else "refused: NoMemory"])

    def test_the_same_as_a_mill(self):
        chance = random.Random(6)
        for text, memory, inputs, _ in ALL:
            calls = sorted((chance.randrange(100), chance.randrange(16)) for _ in range(5))
            machine = Mill(read(text), memory, inputs, calls)
            ahead = rows_text(text) + f"cells {len(memory)}\n"
            ahead += "".join(f"cell {at} {word}\n" for at, word in enumerate(memory))
            ahead += "".join(f"input {word}\n" for word in inputs or ())
            ahead += "".join(f"call {step} {number}\n" for step, number in calls) + "mill\n"
            asked, told = "", []
            for many in (0, 1, 7, 30, 100, 200, 200):
                asked += f"step {many}\nboxes\nsaid\nend\nsteps\nlog\ngaps\nlook 1\nplain\n"
                told += self.told(machine, machine.run(many))
            self.assertEqual(answered(ahead + asked)[-len(told):], told)

    def told(self, machine, many):
        boxes, _, _, _, _, said, _, end = machine.told()
        return [
            str(many), " ".join(map(str, boxes)), " ".join(map(str, said)) or "none", end or "on", str(machine.steps()),
            "; ".join(" ".join(map(str, row)) for row in machine.log()) or "none",
            ", ".join(f"{reason} {count}" for reason, count in machine.gaps().items() if count) or "none",
            str(machine.memory()[1]), "alike",
        ]

    def test_inputs_to_sixty(self):
        told = answered("input" + " 5" * 59 + "\ninput 5 5\ninput 5\ninput 5\nrow ask r1\nmill\nstep 6\nlog")
        self.assertEqual(told, ["ok", "refused: NoInputs", "ok", "refused: NoInputs", "ok", "ok", "6", "done 0"])

    def test_calls_to_twenty(self):
        told = answered("call 0 0\n" * 21 + "mill")
        self.assertEqual(told, ["ok"] * 20 + ["refused: NoCall", "ok"])


class Kept(Case):
    AHEAD = [("row loop:", "ok"), ("row ask r1", "ok"), ("row store r1 r0 1", "ok"), ("row tell r1", "ok"),
             ("row jump loop", "ok"), ("input 4 5 6", "ok"), ("cell 1 9", "ok"), ("mill", "ok")]

    def test_kept_and_woken(self):
        self.answers(self.AHEAD + [
            ("step 17", "17"), ("keep a", "ok"), ("log", "done 0; done 1; done 2; done 3"), ("look 1", "4"), ("step 200", "13"),
            ("end", "lost"), ("said", "4 5 6"), ("keep b", "ok"), ("wake a", "ok"), ("end", "on"), ("said", "4"),
            ("steps", "17"), ("log", "done 0; done 1; done 2; done 3"), ("plain", "alike"), ("step 200", "13"), ("end", "lost"),
            ("said", "4 5 6"), ("plain", "alike"), ("wake a", "ok"), ("steps", "17"), ("wake b", "ok"), ("end", "lost"),
            ("steps", "30"), ("plain", "alike"), ("keep a", "ok"), ("wake a", "ok"), ("steps", "30"),
        ])

    def test_with_what_the_mill_began_with(self):
        self.answers(self.AHEAD + [
            ("step 17", "17"), ("keep old", "ok"), ("cells 8", "ok"), ("cell 1 77", "ok"), ("input 8", "ok"), ("row stop", "ok"),
            ("mill", "ok"), ("look 1", "77"), ("step 12", "12"), ("keep new", "ok"), ("plain", "alike"), ("wake old", "ok"),
            ("look 7", "refused: NoPlace"), ("plain", "alike"), ("step 200", "13"), ("plain", "alike"), ("keep old", "ok"),
            ("wake new", "ok"), ("look 7", "0"), ("plain", "alike"), ("steps", "12"), ("step 200", "24"), ("plain", "alike"),
            ("said", "4 5 6 8"), ("wake old", "ok"), ("end", "lost"), ("said", "4 5 6"), ("plain", "alike"),
        ])

    def test_a_woken_mill_leaves_what_is_for_the_next_one(self):
        self.answers(self.AHEAD + [
            ("keep a", "ok"), ("cell 1 33", "ok"), ("wake a", "ok"), ("look 1", "9"), ("mill", "ok"), ("look 1", "33"),
            ("plain", "alike"), ("wake a", "ok"), ("look 1", "9"), ("plain", "alike"),
        ])

    def test_names(self):
        for name in ("a", "z", "abcdefgh", "mill", "keep"):
            self.answers([("mill", "ok"), (f"keep {name}", "ok"), ("step 6", "6"), (f"wake {name}", "ok"), ("steps", "0")])

    def test_taken_up_at_every_step(self):
        rows = rows_text(CALLS) + "cells 16\ncall 3 4\ncall 40 5\nmill\n"
        one = answered(rows + "step 100\nlog\ngaps\nplain")[-3:]
        other = answered(rows + "step 1\nkeep a\nwake a\n" * 100 + "log\ngaps\nplain")[-3:]
        self.assertEqual(one, other)


AHEADS = ("", "row stop\n", "row stop\nmill\n", "row tell r1\nrow stop\ncell 0 5\nmill\nstep 3\nkeep a\nstep 4\n",
          "row stop\nmill\nstep 9\n")


class Refused(Case):
    def all_refused(self, name, *rows):
        for row in rows:
            for ahead in AHEADS:
                self.refused(row, name, ahead)

    def test_first_words_that_are_none(self):
        self.all_refused("BadRow", "x", "rows", "Row stop", "MILL", "stop", "num r1 5", "ok", ";", "; mill", "mill;", "1", "-")

    def test_too_few_words(self):
        self.all_refused("BadRow", "row", "cells", "cell", "cell 1", "input", "call", "call 1", "step", "look", "keep", "wake",
                         "  row  ")

    def test_too_many_words(self):
        self.all_refused("BadRow", "cells 4 4", "cell 1 2 3", "call 1 2 3", "mill 1", "step 1 1", "boxes 1", "look 1 1",
                         "said 1", "end 1", "log 1", "gaps 1", "steps 1", "keep a b", "wake a b", "plain 1", "mill ;")

    def test_words_that_are_no_numbers(self):
        for word in ("x", "-1", "+1", "1.0", "000000001", "123456789", "0x1", "-", "1_0", "none", "r1"):
            self.all_refused("BadRow", f"cells {word}", f"cell {word} 1", f"cell 1 {word}", f"input {word}", f"input 1 {word} 2",
                             f"call {word} 1", f"call 1 {word}", f"step {word}", f"look {word}")

    def test_steps_beyond(self):
        self.all_refused("BadRow", "step 201", "step 99999999", "step 00000201")

    def test_names_that_are_none(self):
        for name in ("abcdefghi", "A", "a1", "1", "-", "a-b", "a:"):
            self.all_refused("BadRow", f"keep {name}", f"wake {name}")

    def test_no_mill(self):
        for ahead in ("", "row stop\n", "row wrong\nmill\n"):
            for row in OF_A_MILL + ("look 99", "look 99999999"):
                self.refused(row, "NoMill", ahead)

    def test_bad_row_comes_ahead_of_no_mill(self):
        for row in ("step 201", "step x", "boxes 1", "look x", "keep A", "plain 1"):
            self.refused(row, "BadRow", "")

    def test_no_name(self):
        for ahead in AHEADS:
            self.refused("wake z", "NoName", ahead)
        self.refused("wake a", "NoName", "mill\nkeep b\n")

    def test_no_memory(self):
        self.all_refused("NoMemory", "cells 0", "cells 3", "cells 5", "cells 62", "cells 65", "cells 68", "cells 99999999")

    def test_cells(self):
        self.all_refused("NoPlace", "cell 4 0", "cell 99999999 0", "cell 4 65536")
        self.all_refused("NoWord", "cell 0 65536", "cell 3 99999999")
        self.refused("cell 8 65536", "NoPlace", "cells 8\n")
        self.refused("cell 7 65536", "NoWord", "cells 8\n")

    def test_inputs(self):
        self.all_refused("NoWord", "input 65536", "input 1 65536 2", "input" + " 1" * 60 + " 65536")
        self.all_refused("NoInputs", "input" + " 1" * 61)
        self.refused("input 1 1", "NoInputs", "input" + " 1" * 59 + "\n")
        self.refused("input 1 65536", "NoWord", "input" + " 1" * 60 + "\n")

    def test_calls(self):
        self.all_refused("NoCall", "call 0 16", "call 0 99999999")
        self.refused("call 4 1", "NoCall", "call 5 1\n")
        self.refused("call 5 16", "NoCall", "call 5 1\n")
        self.refused("call 9 1", "NoCall", "call 5 1\n" * 20)
        self.refused("call 4 1", "NoCall", "call 5 1\nmill\nstep 9\n")

    def test_no_text(self):
        for rows in ("row wrong\n", "row jump a\n", "row a:\nrow a:\n", "row stop\n" * 65, "row hall 1\nrow hall 1\n"):
            self.refused("mill", "NoText", rows)
        self.refused("mill", "NoText", "row stop\nmill\nkeep a\nstep 3\nrow wrong\n")

    def test_look(self):
        for ahead in AHEADS[2:]:
            for row in ("look 4", "look 64", "look 99999999"):
                self.refused(row, "NoPlace", ahead)


if __name__ == "__main__":
    unittest.main()
