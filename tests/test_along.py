import unittest

from tests import wrong_things
from rowmill.along import alike, along
from rowmill.errors import NoInputs, NoLog, NoMemory
from rowmill.mill import Mill
from rowmill.plain import Plain
from rowmill.reading import read

FOUR = [0, 0, 0, 0]
TEXT = "hall h\nask r1\ntell r1\nask r1\nstop\nh:\nwhere r2\nplus r2 r2 1\naim r2\nhome"
LOG = [("done", 0), ("call", 3, 1), ("done", 4), ("done", 5), ("done", 6), ("done", 7), ("fault", 2, 5),
       ("done", 4), ("done", 5), ("done", 6), ("done", 7), ("done", 3)]


class Along(unittest.TestCase):
    def refused(self, log, at, text=TEXT):
        for handed in (list(log), tuple(log)):
            with self.subTest(log=handed):
                with self.assertRaises(NoLog) as taken:
                    along(read(text), FOUR, [7], handed)
                self.assertIs(type(taken.exception.at), int)
                self.assertEqual(taken.exception.at, at)

    def test_goes_along(self):
        for log in (LOG, tuple(LOG), [list(row) for row in LOG]):
            program = read(TEXT)
            plain = along(program, FOUR, [7], log)
            self.assertIsInstance(plain, Plain)
            self.assertIs(plain.program, program)
            self.assertEqual(plain.log(), LOG)
            self.assertEqual(plain.told()[7], "stop")

    def test_as_far_as_the_log_goes(self):
        for many in range(len(LOG) + 1):
            self.assertEqual(along(read(TEXT), FOUR, [7], LOG[:many]).log(), LOG[:many])
        self.assertEqual(along(read(TEXT), FOUR, None, []).told(), Plain(read(TEXT), FOUR).told())

    def test_what_is_handed_in_stays(self):
        memory, inputs, log = [1, 2, 3, 4], [7], [list(row) for row in LOG]
        plain = along(read(TEXT), memory, inputs, log)
        self.assertEqual((memory, inputs, log), ([1, 2, 3, 4], [7], [list(row) for row in LOG]))
        log[0][1] = 9
        self.assertEqual(plain.log(), LOG)

    def test_refused_as_a_plain_machine_first(self):
        for memory in wrong_things.MEMORIES:
            with self.assertRaises(NoMemory):
                along(read(TEXT), memory, "x", ["x"])
        for inputs in wrong_things.INPUTS:
            with self.assertRaises(NoInputs):
                along(read(TEXT), FOUR, inputs, ["x"])

    def test_rows_of_no_form(self):
        for row in (None, 0, True, "", "done", "done 0", (), [], {}, ("done",), ("done", 0, 0), ("fault", 0), ("call", 3), ("call",),
                    ("call", 3, 1, 1), ("fault", 2, 5, 5), ("gap", "fill"), (0, "done"), (None, 0), (["done"], 0), ("Done", 0),
                    ("done", "0"), ("done", None), ("done", 0.0), ("done", [0]), {"done": 0}, 5.5, ("stop",), (("done", 0),)):
            self.refused([row], 0)
            self.refused(LOG[:5] + [row] + LOG[5:], 5)

    def test_true_is_no_number(self):
        self.refused([("done", False)], 0)
        self.refused(LOG[:1] + [("call", 3, True)], 1)
        self.refused([("done", 0), ("done", True)], 1)
        self.refused([("call", True, 0)], 0)
        self.refused([("fault", False, 2)], 0, "code 1")
        self.refused([("done", 0), ("fault", True, 1)], 1, "num r1 1")
        self.refused([("fault", 0, True)], 0, "")

    def test_another_answer(self):
        for at, row in ((0, ("done", 1)), (0, ("fault", 0, 1)), (0, ("done", -1)), (1, ("call", 3, 0)), (1, ("call", 4, 2)),
                        (6, ("fault", 2, 4)), (6, ("fault", 1, 5)), (6, ("done", 2)), (11, ("done", 4)), (2, ("done", 5))):
            self.refused(LOG[:at] + [row] + LOG[at + 1:], at)

    def test_another_number_of_a_call_shows_where_it_is_asked(self):
        text = "hall 1\nstop\nwhy r1\nzero r1 9\ngo r1"
        self.assertEqual(along(read(text), FOUR, None, [("call", 3, 0), ("done", 1), ("done", 2), ("done", 3)]).told()[1], 19)
        self.refused([("call", 3, 0), ("done", 1), ("done", 2), ("done", 3), ("fault", 20, 1)], 4, text)

    def test_calls_that_are_refused(self):
        self.refused([("call", 16, 0)], 0)
        self.refused([("call", -1, 0)], 0)
        self.refused([("call", 3, 0)], 0, "stop")
        self.refused([("call", 3, 0), ("call", 3, 4)], 1)
        self.refused(LOG + [("call", 3, 3)], len(LOG))
        self.refused(LOG[:7] + [("call", 1, 4)] + LOG[7:], 7)

    def test_a_step_behind_the_end(self):
        self.refused(LOG + [("done", 3)], len(LOG))
        self.refused([("fault", 0, 1), ("fault", 0, 1)], 1, "")

    def test_the_first_of_several(self):
        self.refused(LOG[:3] + [("done", 9), None, ("call", 99, 9)], 3)


class Alike(unittest.TestCase):
    def both(self, text, steps, memory=FOUR, inputs=None, calls=None):
        program = read(text)
        mill = Mill(program, memory, inputs, calls)
        mill.run(steps)
        return along(program, memory, inputs, mill.log()), mill

    def test_at_every_step(self):
        for steps in range(70):
            plain, mill = self.both(TEXT, steps, inputs=[7], calls=[(7, 3)])
            self.assertIs(alike(plain, mill), True)

    def test_a_plain_machine_that_went_elsewhere(self):
        plain, mill = self.both("num r1 5\ntell r1\njump 0", 8)
        self.assertIs(alike(plain, mill), True)
        plain.step()
        self.assertIs(alike(plain, mill), False)
        self.assertIs(alike(Plain(mill.program, FOUR), mill), False)

    def test_each_thing_that_is_told(self):
        mill = Mill(read("hall 2\nstop"), FOUR, [5])
        self.assertIs(alike(Plain(mill.program, FOUR, [5]), mill), True)
        self.assertIs(alike(Plain(mill.program, FOUR, [6]), mill), False)
        self.assertIs(alike(Plain(mill.program, FOUR, []), mill), False)
        called = Plain(mill.program, FOUR, [5])
        called.call(1)
        self.assertIs(alike(called, mill), False)
        ended = Plain(mill.program, FOUR, [5])
        ended.step()
        self.assertIs(alike(ended, mill), False)

    def test_another_memory(self):
        mill = Mill(read("stop"), FOUR)
        for memory in ([0, 0, 0, 1], [1, 0, 0, 0], [0] * 8):
            self.assertIs(alike(Plain(mill.program, memory), mill), False)

    def test_a_store_at_write(self):
        text = "num r1 5\nstore r1 r0 2\nstop"
        # The store comes to write in the tenth step and leaves it in the eleventh.
        for steps, same in ((9, True), (10, False), (11, True)):
            plain, mill = self.both(text, steps)
            self.assertEqual(plain.memory() == mill.memory(), same, steps)
            self.assertIs(alike(plain, mill), True)
        plain, mill = self.both(text, 10)
        self.assertEqual(mill.stations()[4][1], 1)
        self.assertEqual((plain.memory(), mill.memory()), ([0, 0, 0, 0], [0, 0, 5, 0]))
        for memory, like in (([0, 0, 9, 0], True), ([0, 0, 0, 1], False), ([1, 0, 5, 0], False)):
            other = Plain(mill.program, memory)
            other.step()
            self.assertIs(alike(other, mill), like)

    def test_a_store_with_a_fault_at_write(self):
        plain, mill = self.both("num r1 5\nstore r1 r0 4\nstop", 6)
        self.assertEqual(mill.stations()[4][:3], ("flight", 1, 4))
        self.assertIs(alike(plain, mill), True)
        other = Plain(mill.program, [0, 0, 0, 9])
        other.step()
        self.assertIs(alike(other, mill), False)

    def test_a_load_at_write_spares_nothing(self):
        plain, mill = self.both("load r1 r0 2\nstop", 9)
        self.assertEqual(mill.stations()[4][1], 0)
        self.assertIs(alike(plain, mill), True)
        self.assertIs(alike(Plain(mill.program, [0, 0, 9, 0]), mill), False)

    def test_asking_changes_nothing(self):
        plain, mill = self.both("num r1 5\nstore r1 r0 2\nstop", 10)
        before = (plain.told(), plain.memory(), mill.parts())
        alike(plain, mill)
        self.assertEqual((plain.told(), plain.memory(), mill.parts()), before)


if __name__ == "__main__":
    unittest.main()
