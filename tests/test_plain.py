import random
import unittest

from tests import chance as by_chance
from tests import wrong_things
from tests.plain_model import Model
from rowmill.errors import NoCall, NoInputs, NoMemory, NoStep, Shut
from rowmill.plain import Plain
from rowmill.programs import Program
from rowmill.reading import read

FIRST = ((0,) * 8, 0, False, 0, 0, (), (), "")
FOUR = [0, 0, 0, 0]


def told(boxes=None, place=0, inside=False, cause=0, back=0, said=(), left=(), end=""):
    held = [0] * 8
    for box, word in (boxes or {}).items():
        held[box] = word
    return (tuple(held), place, inside, cause, back, tuple(said), tuple(left), end)


def plain(text, memory=FOUR, inputs=None):
    return Plain(read(text), memory, inputs)


class Made(unittest.TestCase):
    def test_at_first(self):
        program = read("stop")
        machine = Plain(program, [1, 2, 3, 4])
        self.assertIs(machine.program, program)
        self.assertEqual(machine.told(), FIRST)
        self.assertIs(machine.told()[2], False)
        self.assertEqual(machine.log(), [])
        self.assertEqual(machine.memory(), [1, 2, 3, 4])
        self.assertIs(type(machine.memory()), list)

    def test_memories(self):
        for many in (4, 8, 12, 60, 64):
            for memory in ([65535] * many, (0,) * many, list(range(many))):
                self.assertEqual(plain("", memory).memory(), list(memory))

    def test_inputs(self):
        for inputs in (None, [], (), [0], (65535,), [5] * 60, (1, 2)):
            self.assertEqual(plain("", FOUR, inputs).told()[6], tuple(inputs or ()))

    def test_memories_that_are_none(self):
        for memory in wrong_things.MEMORIES:
            for inputs in (None, [61] * 61, "x"):
                with self.subTest(memory=memory):
                    with self.assertRaises(NoMemory):
                        Plain(read("stop"), memory, inputs)

    def test_inputs_that_are_none(self):
        for inputs in wrong_things.INPUTS:
            with self.subTest(inputs=inputs):
                with self.assertRaises(NoInputs):
                    Plain(read("stop"), FOUR, inputs)


class Own(unittest.TestCase):
    def test_what_is_handed_in_may_be_changed(self):
        memory, inputs = [1, 2, 3, 4], [5, 6]
        machine = plain("ask r1\nload r2 r0 1\nstore r1 r0 0\nstop", memory, inputs)
        memory[1] = 9
        inputs[0] = 9
        inputs.append(7)
        machine.run(9)
        self.assertEqual(machine.told(), told({1: 5, 2: 2}, 3, left=(6,), end="stop"))
        self.assertEqual(machine.memory(), [5, 2, 3, 4])

    def test_what_is_handed_in_stays(self):
        memory, inputs = [1, 2, 3, 4], [5, 6]
        machine = plain("ask r1\nstore r1 r0 0\nstop", memory, inputs)
        machine.run(9)
        self.assertEqual((memory, inputs), ([1, 2, 3, 4], [5, 6]))

    def test_what_is_told_is_the_askers(self):
        machine = plain("tell r0\nstore r0 r0 0\njump 0", [1, 2, 3, 4])
        machine.step()
        log, memory, answer = machine.log(), machine.memory(), machine.told()
        machine.step()
        machine.step()
        self.assertEqual(log, [("done", 0)])
        self.assertEqual(memory, [1, 2, 3, 4])
        self.assertEqual(answer, told(place=1, said=(0,)))
        log = machine.log()
        log.append(5)
        log[0] = 7
        machine.memory()[0] = 9
        self.assertEqual(machine.log(), [("done", 0), ("done", 1), ("done", 2)])
        self.assertEqual(machine.memory(), [0, 2, 3, 4])


class Rows(unittest.TestCase):
    """Each row done, with what it finds told ahead of it."""

    def done(self, row, ahead="", memory=FOUR, inputs=None, memory_behind=None, skip=0, **behind):
        machine = plain(ahead + row, memory, inputs)
        many = len([line for line in ahead.split("\n") if line])
        self.assertEqual(machine.run(many - skip), many - skip)
        place = machine.told()[1]
        self.assertEqual(machine.step(), ("done", place), row)
        self.assertEqual(machine.told(), told(**behind), row)
        self.assertEqual(machine.memory(), list(memory if memory_behind is None else memory_behind))
        self.assertEqual(machine.log()[-1], ("done", place))
        self.assertEqual(len(machine.log()), many - skip + 1)

    def test_stop(self):
        self.done("stop", end="stop", place=0)
        self.done("stop", "num r1 5\n", boxes={1: 5}, end="stop", place=1)

    def test_num(self):
        for n in (0, 1, 1023):
            self.done(f"num r7 {n}", boxes={7: n}, place=1)
        self.done("num r0 5", place=1)

    def test_plus(self):
        self.done("plus r2 r1 -6", "num r1 5\n", boxes={1: 5, 2: 65535}, place=2)
        self.done("plus r1 r1 511", "num r1 5\n", boxes={1: 516}, place=2)
        self.done("plus r0 r1 5", "num r1 5\n", boxes={1: 5}, place=2)
        self.done("plus r1 r0 -512", boxes={1: 65024}, place=1)

    def test_pairs(self):
        for word, answer in (("add", 1006), ("sub", 994), ("mul", 6000), ("div", 166), ("rest", 4), ("and", 0),
                             ("or", 1006), ("xor", 1006), ("up", 64000), ("down", 15), ("low", 0), ("same", 0)):
            self.done(f"{word} r3 r1 r2", "num r1 1000\nnum r2 6\n", boxes={1: 1000, 2: 6, 3: answer}, place=3)
            self.done(f"{word} r0 r1 r2", "num r1 1000\nnum r2 6\n", boxes={1: 1000, 2: 6}, place=3)

    def test_pair_of_one_box(self):
        self.done("add r1 r1 r1", "num r1 5\n", boxes={1: 10}, place=2)
        self.done("same r1 r1 r1", "num r1 5\n", boxes={1: 1}, place=2)

    def test_load(self):
        self.done("load r1 r0 3", memory=[5, 6, 7, 8], boxes={1: 8}, place=1)
        self.done("load r2 r1 -2", "num r1 2\n", memory=[5, 6, 7, 8], boxes={1: 2, 2: 5}, place=2)
        self.done("load r0 r0 3", memory=[5, 6, 7, 8], place=1)
        self.done("load r1 r2 1", "plus r2 r0 -1\n", memory=[5, 6, 7, 8], boxes={2: 65535, 1: 5}, place=2)
        self.done("load r1 r0 63", memory=range_list(64), boxes={1: 63}, place=1)

    def test_store(self):
        self.done("store r1 r0 3", "num r1 9\n", memory=[5, 6, 7, 8], memory_behind=[5, 6, 7, 9], boxes={1: 9}, place=2)
        self.done("store r1 r1 -9", "num r1 9\n", memory=[5, 6, 7, 8], memory_behind=[9, 6, 7, 8], boxes={1: 9}, place=2)
        self.done("store r0 r0 0", memory=[5, 6, 7, 8], memory_behind=[0, 6, 7, 8], place=1)

    def test_jump(self):
        for goal in (0, 1, 63, 64, 1023):
            self.done(f"jump {goal}", place=goal)

    def test_zero(self):
        self.done("zero r1 9", place=9)
        self.done("zero r1 9", "num r1 1\n", boxes={1: 1}, place=2)
        self.done("zero r0 9", "num r0 1\n", place=9)

    def test_link(self):
        self.done("link r1 9", "num r2 1\n", boxes={1: 2, 2: 1}, place=9)
        self.done("link r0 9", place=9)

    def test_go(self):
        self.done("go r1", "plus r1 r0 -1\n", boxes={1: 65535}, place=65535)
        self.done("go r0", "num r1 3\n", boxes={1: 3}, place=0)

    def test_ask(self):
        self.done("ask r1", inputs=[7, 8], boxes={1: 7}, left=(8,), place=1)
        self.done("ask r0", inputs=[7, 8], left=(8,), place=1)
        self.done("ask r1", "ask r1\n", inputs=(7, 8), boxes={1: 8}, place=2)

    def test_tell(self):
        self.done("tell r1", "num r1 7\ntell r1\n", boxes={1: 7}, said=(7, 7), place=3)
        self.done("tell r0", said=(0,), place=1)

    def test_inside(self):
        ahead = "code 1\nhall 1\n"
        inside = {"inside": True, "cause": 2}
        self.done("why r1", ahead, skip=1, boxes={1: 2}, place=2, **inside)
        self.done("why r0", ahead, skip=1, place=2, **inside)
        self.done("where r1", ahead, skip=1, boxes={1: 0}, place=2, **inside)
        self.done("home", ahead, skip=1, cause=2)

    def test_where_and_home_tell_the_place_of_the_fault(self):
        ahead = "num r1 5\nnum r2 6\ncode 1\nhall 3\n"
        self.done("where r3", ahead, skip=1, boxes={1: 5, 2: 6, 3: 2}, place=4, inside=True, cause=2, back=2)
        self.done("home", ahead, skip=1, boxes={1: 5, 2: 6}, place=2, cause=2, back=2)
        self.done("aim r1", ahead, skip=1, boxes={1: 5, 2: 6}, place=4, inside=True, cause=2, back=5)

    def test_outside(self):
        self.done("why r1", place=1)
        self.done("where r1", "num r1 5\naim r1\n", boxes={1: 5}, back=5, place=3)
        self.done("aim r0", place=1)
        self.done("aim r1", "plus r1 r0 -1\n", boxes={1: 65535}, back=65535, place=2)


def range_list(many):
    return list(range(many))


FAULTS = (
    ("num r7 64\ngo r7", 64, 1, {7: 64}),
    ("jump 1023", 1023, 1, {}),
    ("code 1", 0, 2, {}),
    ("num r1 5\ncode 16777215", 1, 2, {1: 5}),
    ("home", 0, 2, {}),
    ("num r1 5\ndiv r1 r1 r0", 1, 3, {1: 5}),
    ("num r1 5\nrest r1 r1 r2", 1, 3, {1: 5}),
    ("div r0 r0 r0", 0, 3, {}),
    ("num r1 5\nload r1 r0 4", 1, 4, {1: 5}),
    ("num r1 5\nload r1 r0 -1", 1, 4, {1: 5}),
    ("load r0 r0 4", 0, 4, {}),
    ("num r1 5\nstore r1 r0 4", 1, 4, {1: 5}),
    ("num r1 5\nstore r1 r1 -512", 1, 4, {1: 5}),
    ("num r1 5\nask r1", 1, 5, {1: 5}),
    ("ask r0", 0, 5, {}),
)


class Faults(unittest.TestCase):
    def at_fault(self, text, hall):
        machine = plain(text + ("" if hall is None else f"\nhall {hall}"), [5, 6, 7, 8])
        while True:
            answer = machine.step()
            if answer[0] == "fault":
                return machine, answer

    def test_without_a_hall(self):
        for text, place, cause, boxes in FAULTS:
            machine, answer = self.at_fault(text, None)
            self.assertEqual(answer, ("fault", place, cause), text)
            self.assertEqual(machine.told(), told(boxes, place, end="lost"), text)
            self.assertEqual(machine.memory(), [5, 6, 7, 8])
            self.assertEqual(machine.log()[-1], answer)

    def test_with_a_hall(self):
        for text, place, cause, boxes in FAULTS:
            for hall in (0, 3, 1023):
                machine, answer = self.at_fault(text, hall)
                self.assertEqual(answer, ("fault", place, cause), text)
                self.assertEqual(machine.told(), told(boxes, hall, True, cause, place), text)
                self.assertEqual(machine.memory(), [5, 6, 7, 8])

    def test_inside(self):
        for text, _, cause, boxes in FAULTS:
            if text == "home":
                continue
            # The first row has a fault, and its hall is the text itself.
            many = len(text.split("\n"))
            moved = "code 1\nhall 1\n" + text
            machine = plain(moved, [5, 6, 7, 8])
            self.assertEqual(machine.step(), ("fault", 0, 2))
            machine.run(many + 5)
            last = machine.log()[-1]
            self.assertEqual((last[0], last[2]), ("fault", cause), text)
            self.assertEqual(machine.told(), told(boxes, last[1], True, 2, 0, end="lost"), text)
            self.assertEqual(machine.memory(), [5, 6, 7, 8])

    def test_off_behind_the_last_row(self):
        machine = plain("num r1 5")
        self.assertEqual([machine.step(), machine.step()], [("done", 0), ("fault", 1, 1)])
        self.assertEqual(machine.told(), told({1: 5}, 1, end="lost"))

    def test_no_rows_at_all(self):
        machine = plain("")
        self.assertEqual(machine.step(), ("fault", 0, 1))
        self.assertEqual(machine.told(), told(end="lost"))

    def test_the_last_place(self):
        machine = plain("jump 63\n" + "code 1\n" * 62 + "num r1 5")
        self.assertEqual([machine.step() for _ in range(3)], [("done", 0), ("done", 63), ("fault", 64, 1)])

    def test_a_hall_that_is_off(self):
        machine = plain("code 1\nhall 9")
        self.assertEqual([machine.step(), machine.step()], [("fault", 0, 2), ("fault", 9, 1)])
        self.assertEqual(machine.told(), told({}, 9, True, 2, 0, end="lost"))

    def test_home_and_a_second_fault(self):
        machine = plain("hall h\ncode 1\nask r1\nstop\nh:\nwhere r2\nplus r2 r2 1\naim r2\nhome", inputs=[])
        answers = [machine.step() for _ in range(11)]
        self.assertEqual(answers, [
            ("fault", 0, 2), ("done", 3), ("done", 4), ("done", 5), ("done", 6),
            ("fault", 1, 5), ("done", 3), ("done", 4), ("done", 5), ("done", 6), ("done", 2),
        ])
        self.assertEqual(machine.told(), told({2: 2}, 2, False, 5, 2, end="stop"))

    def test_home_home(self):
        machine = plain("hall h\ncode 1\nhome\nh:\nnum r1 1\naim r1\nhome")
        machine.run(4)
        self.assertEqual(machine.told(), told({1: 1}, 1, False, 2, 1))
        self.assertEqual(machine.step(), ("fault", 1, 2))
        self.assertEqual(machine.told(), told({1: 1}, 2, True, 2, 1))


class Ends(unittest.TestCase):
    def test_no_step_behind_the_end(self):
        for text, end in (("stop", "stop"), ("code 1", "lost"), ("", "lost")):
            machine = plain(text)
            machine.step()
            before = (machine.told(), machine.log(), machine.memory())
            self.assertEqual(machine.told()[7], end)
            for _ in range(2):
                with self.assertRaises(NoStep):
                    machine.step()
                with self.assertRaises(NoStep):
                    machine.call(3)
                self.assertEqual(machine.run(5), 0)
                self.assertEqual((machine.told(), machine.log(), machine.memory()), before)

    def test_run(self):
        text = "num r1 3\nplus r1 r1 -1\nzero r1 4\njump 1\nstop"
        for most, steps in ((0, 0), (1, 1), (9, 9), (10, 10), (11, 10), (1000, 10)):
            machine = plain(text)
            self.assertEqual(machine.run(most), steps)
            self.assertEqual(len(machine.log()), steps)
            self.assertEqual(machine.told()[7], "stop" if steps == 10 else "")

    def test_run_counts_faults(self):
        machine = plain("code 1\nhall 1\nask r1")
        self.assertEqual(machine.run(9), 2)
        self.assertEqual(machine.log(), [("fault", 0, 2), ("fault", 1, 5)])

    def test_run_goes_on(self):
        machine = plain("jump 0")
        self.assertEqual([machine.run(3), machine.run(0), machine.run(4)], [3, 0, 4])
        self.assertEqual(machine.log(), [("done", 0)] * 7)


NO_CALLS = (-1, 16, 10 ** 30, True, False, None, "1", "", 1.0, (), [], [1])


class Calls(unittest.TestCase):
    def test_each_number(self):
        for number in range(16):
            machine = plain("num r1 5\nstop\nhall 9")
            machine.step()
            self.assertEqual(machine.call(number), ("call", number, 1))
            self.assertEqual(machine.told(), told({1: 5}, 9, True, 16 + number, 1))
            self.assertEqual(machine.log(), [("done", 0), ("call", number, 1)])

    def test_ahead_of_the_first_row_and_home(self):
        machine = plain("stop\nhall h\nh:\nwhy r1\nhome")
        machine.call(15)
        machine.run(2)
        self.assertEqual(machine.told(), told({1: 31}, 0, False, 31, 0))
        machine.call(0)
        self.assertEqual(machine.told(), told({1: 31}, 1, True, 16, 0))

    def test_shut(self):
        machine = plain("stop")
        for number in (0, 15):
            with self.assertRaises(Shut):
                machine.call(number)
        self.assertEqual((machine.told(), machine.log()), (FIRST, []))
        for begin in ("code 1\nhall 1\nstop", None):
            machine = plain(begin or "stop\nhall 0")
            machine.step() if begin else machine.call(1)
            before = (machine.told(), machine.log())
            with self.assertRaises(Shut):
                machine.call(1)
            self.assertEqual((machine.told(), machine.log()), before)

    def test_numbers_that_are_none(self):
        for wrong in NO_CALLS:
            for text in ("stop\nhall 0", "stop", "code 1\nhall 1\nstop"):
                machine = plain(text)
                machine.run(text.count("code"))
                before = (machine.told(), machine.log())
                with self.assertRaises(NoCall):
                    machine.call(wrong)
                self.assertEqual((machine.told(), machine.log()), before)

    def test_order_of_refusals(self):
        for text in ("stop", "stop\nhall 0", "code 1", "hall 0\ncode 1"):
            machine = plain(text)
            machine.run(9)
            self.assertNotEqual(machine.told()[7], "")
            with self.assertRaises(NoCall):
                machine.call(16)
            with self.assertRaises(NoStep):
                machine.call(15)


class ByChance(unittest.TestCase):
    def test_against_the_model(self):
        kinds = set()
        for seed in range(400):
            chance = random.Random(seed)
            memory, inputs = by_chance.some_memory(chance), by_chance.some_inputs(chance)
            program = by_chance.some_program(chance, len(memory))
            machine, model = Plain(program, memory, inputs), Model(program, memory, inputs)
            for _ in range(120):
                if model.end:
                    break
                if chance.random() < 0.05 and model.may_be_called():
                    number = chance.randrange(16)
                    model.call(number)
                    self.assertEqual(machine.call(number), model.log[-1])
                self.assertEqual(machine.step(), model.step(), seed)
                self.assertEqual(machine.told(), model.told(), seed)
                self.assertEqual(machine.memory(), model.memory(), seed)
            self.assertEqual(machine.log(), model.log, seed)
            kinds.update((row[0], row[2]) if row[0] == "fault" else row[:1] for row in model.log)
        self.assertLessEqual({("fault", cause) for cause in range(1, 6)} | {("done",), ("call",)}, kinds)


class Programs(unittest.TestCase):
    def test_a_sum_of_inputs(self):
        machine = plain("ask r1\nloop:\nzero r1 end\nask r2\nadd r3 r3 r2\nplus r1 r1 -1\njump loop\nend:\ntell r3\nstop",
                        inputs=(3, 10, 20, 65535))
        self.assertEqual(machine.run(100), 1 + 3 * 5 + 3)
        self.assertEqual(machine.told()[5:], ((29,), (), "stop"))

    def test_program_is_the_one_handed_in(self):
        program = Program([0])
        self.assertIs(Plain(program, FOUR).program, program)


if __name__ == "__main__":
    unittest.main()
