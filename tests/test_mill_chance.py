"""The mill against the plain machine, against a model of itself and against itself, upon many programs."""

import random
import unittest

from tests import chance as by_chance
from tests.mill_model import MillModel
from tests.mill_programs import ALL, CALLS
from rowmill.along import alike, along
from rowmill.keeping import kept, woken
from rowmill.mill import Mill, mill_with
from rowmill.plain import Plain
from rowmill.reading import read

REASONS = ("fill", "turn", "guess", "hold", "alone", "slow", "miss")


def some_mill(chance, calls=True):
    memory, inputs = by_chance.some_memory(chance), by_chance.some_inputs(chance)
    program = by_chance.some_program(chance, len(memory))
    called = by_chance.some_calls(chance, 200) if calls else None
    return program, memory, inputs, called, chance.choice((1, 2, 4)), chance.choice((1, 2, 3, 8, 16))


def long_mills(chance):
    for text, memory, inputs, _ in ALL:
        for sets in (1, 2, 4):
            calls = [(step, chance.randrange(16)) for step in sorted(chance.randrange(500) for _ in range(20))]
            yield read(text), memory, inputs, calls, sets, chance.choice((1, 8, 16))


class AgainstThePlainMachine(unittest.TestCase):
    def follow(self, plain, rows):
        for row in rows:
            answer = plain.call(row[1]) if row[0] == "call" else plain.step()
            self.assertEqual(answer, row)

    def check(self, made, most):
        program, memory, inputs = made[:3]
        machine = Mill(*made)
        plain = Plain(program, memory, inputs)
        went, gaps, counts = 0, 0, dict.fromkeys(REASONS, 0)
        self.assertTrue(alike(plain, machine))
        while machine.told()[7] == "" and machine.steps() < most:
            answer = machine.step()
            log = machine.log()
            more = log[went:]
            self.follow(plain, more)
            went = len(log)
            self.assertTrue(alike(plain, machine))
            # Just one row is done or has its fault, or there is a gap; a call comes behind it.
            self.assertEqual([row for row in more if row[0] != "call"], [answer] if answer[0] != "gap" else [])
            self.assertLessEqual(len([row for row in more if row[0] == "call"]), 1)
            if answer[0] == "gap":
                counts[answer[1]] += 1
            gaps = gaps + 1 if not more else 0
            self.assertLessEqual(gaps, 13)
            self.assertEqual(machine.gaps(), counts)
            rows = len([row for row in log if row[0] != "call"])
            self.assertEqual(machine.steps(), rows + sum(counts.values()))
        self.assertEqual(along(program, memory, inputs, machine.log()).told(), plain.told())
        return machine

    def test_many_programs(self):
        reasons, kinds = set(), set()
        for seed in range(250):
            machine = self.check(some_mill(random.Random(seed)), 200)
            reasons.update(reason for reason, count in machine.gaps().items() if count)
            kinds.update((row[0], row[2]) if row[0] == "fault" else row[:1] for row in machine.log())
        self.assertEqual(reasons, set(REASONS))
        self.assertLessEqual({("fault", cause) for cause in range(1, 6)} | {("done",), ("call",)}, kinds)

    def test_long_programs(self):
        for made in long_mills(random.Random(1)):
            machine = self.check(made, 3000)
            self.assertNotEqual(machine.told()[7], "")

    def test_along_at_every_step(self):
        for seed in range(12):
            made = some_mill(random.Random(1000 + seed))
            machine = Mill(*made)
            while machine.told()[7] == "" and machine.steps() < 120:
                self.assertTrue(alike(along(*made[:3], machine.log()), machine))
                machine.step()

    def test_what_is_said_at_the_end(self):
        for text, memory, inputs, said in ALL:
            machine = Mill(read(text), memory, inputs)
            machine.run(5000)
            self.assertEqual(machine.told()[7], "stop")
            if said is not None:
                self.assertEqual(machine.told()[5], said)

    def test_calls_are_counted(self):
        calls = [(step, step % 16) for step in range(0, 200, 10)]
        machine = Mill(read(CALLS), [0] * 16, None, calls)
        machine.run(5000)
        taken = [row for row in machine.log() if row[0] == "call"]
        self.assertEqual(machine.memory()[0], len(taken))
        self.assertEqual(machine.memory()[4], sum(16 + row[1] for row in taken))
        self.assertGreater(len(taken), 5)


class AgainstTheModel(unittest.TestCase):
    def check(self, made, most):
        machine, model = Mill(*made), MillModel(*made)
        while machine.told()[7] == "" and machine.steps() < most:
            self.assertEqual(machine.step(), model.step())
            self.assertEqual(machine.stations(), model.stations_told())
            parts = machine.parts()
            self.assertEqual(parts[7:10], (model.near.held(), model.guesses.slots(), model.fetched_next))
            self.assertEqual(parts[11], tuple(model.calls))
            self.assertEqual(machine.log(), model.done.log)
        self.assertEqual(machine.told(), model.done.told()[:1] + (machine.told()[1],) + model.done.told()[2:])

    def test_many_programs(self):
        for seed in range(400):
            self.check(some_mill(random.Random(2000 + seed)), 250)

    def test_long_programs(self):
        for made in long_mills(random.Random(2)):
            self.check(made, 3000)


class AgainstOtherSetsAndSizes(unittest.TestCase):
    def test_the_logs_are_the_same_as_far_as_both_go(self):
        for seed in range(100):
            program, memory, inputs, _, _, _ = some_mill(random.Random(3000 + seed), calls=False)
            logs = []
            for sets, size in ((1, 1), (2, 8), (4, 16)):
                machine = Mill(program, memory, inputs, None, sets, size)
                machine.run(200)
                logs.append(machine.log())
            far = min(len(log) for log in logs)
            self.assertEqual(logs[0][:far], logs[1][:far])
            self.assertEqual(logs[1][:far], logs[2][:far])


class TakenUpAgain(unittest.TestCase):
    def check(self, made, most):
        machine, first, second = Mill(*made), Mill(*made), Mill(*made)
        while machine.told()[7] == "" and machine.steps() < most:
            answer = machine.step()
            self.assertEqual((first.step(), second.step()), (answer, answer))
            parts, text = machine.parts(), kept(machine)
            self.assertEqual((first.parts(), second.parts()), (parts, parts))
            self.assertEqual((kept(first), kept(second)), (text, text))
            first = mill_with(machine.program, first.parts())
            second = woken(text)
            self.assertEqual((second.program.codes, second.program.hall), (made[0].codes, made[0].hall))
        self.assertEqual(second.told(), machine.told())
        self.assertEqual(second.memory(), machine.memory())

    def test_many_programs(self):
        for seed in range(60):
            self.check(some_mill(random.Random(4000 + seed)), 80)

    def test_long_programs(self):
        for made in list(long_mills(random.Random(3)))[::4]:
            self.check(made, 250)


if __name__ == "__main__":
    unittest.main()
