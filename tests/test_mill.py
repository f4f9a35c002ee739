import unittest

from tests import wrong_things
from rowmill.errors import NoCall, NoInputs, NoMemory, NoSets, NoSize, NoStep
from rowmill.mill import Mill, mill_with
from rowmill.reading import read

FOUR = [0, 0, 0, 0]
REASONS = ("fill", "turn", "guess", "hold", "alone", "slow", "miss")
FILLED = (("gap", "fill"),) * 5
TURNED = (("gap", "turn"),) * 5


def mill(text, memory=FOUR, inputs=None, calls=None, sets=2, size=8):
    return Mill(read(text), memory, inputs, calls, sets, size)


def short(station):
    return station[1] if station[0] == "gap" else str(station[1])


def gap_counts(**counts):
    return {reason: counts.get(reason, 0) for reason in REASONS}


class Case(unittest.TestCase):
    def goes(self, machine, trace):
        """Step by step what is told, and behind `|` the stations from fetch to write: a place or a gap's reason."""
        for line in [line.strip() for line in trace.strip().split("\n")]:
            answer, _, stations = line.partition(" | ")
            self.assertEqual(" ".join(str(thing) for thing in machine.step()), answer, line)
            self.assertEqual(" ".join(short(station) for station in machine.stations()), stations, line)
        return machine


class Made(Case):
    def test_at_first(self):
        program = read("stop")
        machine = Mill(program, (1, 2, 3, 4), [5, 6], [(3, 4)])
        self.assertIs(machine.program, program)
        self.assertEqual(machine.stations(), FILLED)
        self.assertEqual(machine.told(), ((0,) * 8, 0, False, 0, 0, (), (5, 6), ""))
        self.assertEqual((machine.log(), machine.steps(), machine.gaps()), ([], 0, gap_counts()))
        self.assertEqual(list(machine.gaps()), list(REASONS))
        self.assertEqual(machine.memory(), [1, 2, 3, 4])
        self.assertEqual(machine.parts(), (
            (0,) * 8, (False, 0, 0), (), (5, 6), "", (1, 2, 3, 4), 2, ((), ()), (None,) * 8, 0, 0, ((3, 4),), (),
            (0,) * 7, FILLED))

    def test_what_may_be_left_out(self):
        self.assertEqual(Mill(read(""), FOUR).parts(), Mill(read(""), FOUR, None, None, 2, 8).parts())
        self.assertEqual(Mill(read(""), FOUR, [], []).parts(), Mill(read(""), FOUR, (), (), sets=2, size=8).parts())

    def test_sets_and_sizes(self):
        for sets in (1, 2, 4):
            for size in (1, 7, 16):
                parts = mill("", sets=sets, size=size).parts()
                self.assertEqual((parts[6], parts[7], parts[8]), (sets, ((),) * sets, (None,) * size))

    def test_calls(self):
        for calls in (None, (), [], [(0, 0)], ((5, 15), [5, 0]), [[0, 1], [10 ** 30, 2]], [(3, 3)] * 20):
            self.assertEqual(mill("", calls=calls).parts()[11], tuple(tuple(call) for call in calls or ()))


class Refused(Case):
    def refused(self, error, memory=FOUR, inputs=None, calls=None, sets=2, size=8):
        with self.subTest(memory=memory, inputs=inputs, calls=calls, sets=sets, size=size):
            with self.assertRaises(error):
                Mill(read("stop"), memory, inputs, calls, sets, size)

    def test_each_wrong_kind(self):
        for memory in wrong_things.MEMORIES:
            self.refused(NoMemory, memory=memory)
        for inputs in wrong_things.INPUTS:
            self.refused(NoInputs, inputs=inputs)
        for calls in wrong_things.CALLS:
            self.refused(NoCall, calls=calls)
        for sets in (0, 3, 5, 8, -1, True, False, None, "2", 2.0, (), [2], {}):
            self.refused(NoSets, sets=sets)
        for size in (0, 17, -1, True, False, None, "8", 8.0, (), [8], {}):
            self.refused(NoSize, size=size)

    def test_their_order(self):
        self.refused(NoMemory, None, "x", "x", None, None)
        self.refused(NoInputs, FOUR, "x", "x", None, None)
        self.refused(NoCall, FOUR, [5], "x", None, None)
        self.refused(NoSets, FOUR, [5], [(0, 0)], None, None)
        self.refused(NoSize, FOUR, [5], [(0, 0)], 4, None)


class Traces(Case):
    def test_rows_one_behind_the_other(self):
        machine = self.goes(mill("num r1 5\nplus r1 r1 1\nstop"), """
            gap fill | 0 fill fill fill fill
            gap fill | 1 0 fill fill fill
            gap fill | 2 1 0 fill fill
            gap fill | 3 2 1 0 fill
            gap fill | 4 3 2 1 0
            done 0 | 5 4 3 2 1
            done 1 | 6 5 4 3 2
            done 2 | turn turn turn turn turn
        """)
        self.assertEqual(machine.log(), [("done", 0), ("done", 1), ("done", 2)])
        self.assertEqual(machine.gaps(), gap_counts(fill=5))
        self.assertEqual(machine.steps(), 8)
        self.assertEqual(machine.told(), ((0, 6, 0, 0, 0, 0, 0, 0), 2, False, 0, 0, (), (), "stop"))

    def test_a_load_that_comes_and_a_row_that_holds(self):
        machine = self.goes(mill("load r1 r0 0\nplus r1 r1 1\nstop", [7, 0, 0, 0]), """
            gap fill | 0 fill fill fill fill
            gap fill | 1 0 fill fill fill
            gap fill | 2 1 0 fill fill
            gap fill | 2 1 hold 0 fill
            gap fill | 2 1 hold 0 miss
            gap miss | 2 1 hold 0 miss
            gap miss | 2 1 hold 0 miss
            gap miss | 2 1 hold 0 miss
            gap miss | 3 2 1 hold 0
            done 0 | 4 3 2 1 hold
            gap hold | 5 4 3 2 1
            done 1 | 6 5 4 3 2
            done 2 | turn turn turn turn turn
        """)
        self.assertEqual(machine.gaps(), gap_counts(fill=5, miss=4, hold=1))

    def test_a_load_that_is_near(self):
        machine = mill("load r1 r0 0\nload r2 r0 3\nadd r3 r1 r2\nstop", [7, 0, 0, 8])
        machine.run(8)
        self.goes(machine, """
            gap miss | 3 2 hold 1 0
            done 0 | 4 3 2 hold 1
            done 1 | 5 4 3 2 hold
            gap hold | 6 5 4 3 2
            done 2 | 7 6 5 4 3
        """)
        self.assertEqual(machine.gaps(), gap_counts(fill=5, miss=4, hold=1))
        self.assertEqual(machine.told()[0][3], 15)

    def test_mul_and_div_are_slow(self):
        machine = self.goes(mill("num r1 5\nmul r1 r1 r1\ntell r1\nstop"), """
            gap fill | 0 fill fill fill fill
            gap fill | 1 0 fill fill fill
            gap fill | 2 1 0 fill fill
            gap fill | 3 2 1 0 fill
            gap fill | 3 2 1 slow 0
            done 0 | 3 2 1 slow slow
            gap slow | 4 3 2 1 slow
            gap slow | 5 4 3 2 1
            done 1 | 6 5 4 3 2
            done 2 | 7 6 5 4 3
            done 3 | turn turn turn turn turn
        """)
        self.assertEqual(machine.gaps(), gap_counts(fill=5, slow=2))
        for word, many in (("mul", 2), ("div", 4), ("rest", 4), ("add", 0)):
            machine = mill(f"num r1 5\n{word} r1 r1 r1\nstop")
            machine.run(100)
            self.assertEqual(machine.gaps(), gap_counts(fill=5, slow=many), word)

    def test_a_jump_that_is_guessed_wrong_and_then_right(self):
        machine = self.goes(mill("loop:\nplus r1 r1 1\njump loop"), """
            gap fill | 0 fill fill fill fill
            gap fill | 1 0 fill fill fill
            gap fill | 2 1 0 fill fill
            gap fill | 3 2 1 0 fill
            gap fill | 0 guess guess 1 0
            done 0 | 1 0 guess guess 1
            done 1 | 0 1 0 guess guess
            gap guess | 1 0 1 0 guess
            gap guess | 0 1 0 1 0
            done 0 | 1 0 1 0 1
            done 1 | 0 1 0 1 0
        """)
        self.assertEqual(machine.parts()[8][1], (1, 0, 3))
        machine.run(50)
        self.assertEqual(machine.gaps(), gap_counts(fill=5, guess=2))

    def test_rows_that_go_alone(self):
        machine = self.goes(mill("num r1 5\naim r1\nwhere r2\nstop"), """
            gap fill | 0 fill fill fill fill
            gap fill | 1 0 fill fill fill
            gap fill | 2 1 0 fill fill
            gap fill | 2 1 alone 0 fill
            gap fill | 2 1 alone alone 0
            done 0 | 3 2 1 alone alone
            gap alone | 3 2 alone 1 alone
            gap alone | 3 2 alone alone 1
            done 1 | 4 3 2 alone alone
            gap alone | 5 4 3 2 alone
            gap alone | 6 5 4 3 2
            done 2 | 7 6 5 4 3
            done 3 | turn turn turn turn turn
        """)
        self.assertEqual(machine.gaps(), gap_counts(fill=5, alone=4))
        self.assertEqual(machine.told(), ((0, 5, 5, 0, 0, 0, 0, 0), 3, False, 0, 5, (), (), "stop"))

    def test_an_ask_is_known_only_at_write(self):
        machine = self.goes(mill("ask r1\ntell r1\nstop", inputs=[7]), """
            gap fill | 0 fill fill fill fill
            gap fill | 1 0 fill fill fill
            gap fill | 2 1 0 fill fill
            gap fill | 2 1 hold 0 fill
            gap fill | 2 1 hold hold 0
            done 0 | 3 2 1 hold hold
            gap hold | 4 3 2 1 hold
            gap hold | 5 4 3 2 1
            done 1 | 6 5 4 3 2
            done 2 | turn turn turn turn turn
        """)
        self.assertEqual(machine.told()[5:], ((7,), (), "stop"))

    def test_faults_that_come_at_write(self):
        for row, cause in (("ask r1", 5), ("home", 2)):
            machine = self.goes(mill(f"hall 2\n{row}\nstop\nnum r1 5\nstop"), f"""
                gap fill | 0 fill fill fill fill
                gap fill | 1 0 fill fill fill
                gap fill | 2 1 0 fill fill
                gap fill | 3 2 1 0 fill
                gap fill | 4 3 2 1 0
                fault 0 {cause} | turn turn turn turn turn
                gap turn | 2 turn turn turn turn
                gap turn | 3 2 turn turn turn
                gap turn | 4 3 2 turn turn
                gap turn | 5 4 3 2 turn
                gap turn | 6 5 4 3 2
                done 2 | 7 6 5 4 3
                done 3 | turn turn turn turn turn
            """)
            self.assertEqual(machine.told(), ((0, 5, 0, 0, 0, 0, 0, 0), 3, True, cause, 0, (), (), "stop"))
            self.assertEqual(machine.gaps(), gap_counts(fill=5, turn=5))

    def test_home_turns_to_back(self):
        machine = self.goes(mill("hall 2\ncode 1\nnum r1 1\nhome"), """
            gap fill | 0 fill fill fill fill
            gap fill | 1 0 fill fill fill
            gap fill | 2 1 0 fill fill
            gap fill | 3 2 1 0 fill
            gap fill | 3 2 alone 1 0
            fault 0 2 | turn turn turn turn turn
            gap turn | 2 turn turn turn turn
            gap turn | 3 2 turn turn turn
            gap turn | 4 3 2 turn turn
            gap turn | 5 4 3 2 turn
            gap turn | 6 5 4 3 2
            done 2 | turn turn turn turn turn
            gap turn | 0 turn turn turn turn
        """)
        self.assertEqual(machine.told()[1:5], (0, False, 2, 0))

    def test_lost_at_the_end(self):
        for text, place, cause in (("num r1 1", 1, 1), ("num r1 1\ncode 1", 1, 2), ("num r1 1\ndiv r1 r1 r0", 1, 3)):
            machine = mill(text)
            machine.run(100)
            self.assertEqual(machine.log(), [("done", 0), ("fault", place, cause)])
            self.assertEqual(machine.stations(), TURNED)
            self.assertEqual(machine.told(), ((0, 1, 0, 0, 0, 0, 0, 0), place, False, 0, 0, (), (), "lost"))
            self.assertEqual(machine.parts()[9], place)

    def test_a_line_that_goes_changed(self):
        machine = self.goes(mill("store r0 r0 0\nstore r0 r0 8\nload r1 r0 16\nstop", [0] * 32), """
            gap fill | 0 fill fill fill fill
            gap fill | 1 0 fill fill fill
            gap fill | 2 1 0 fill fill
            gap fill | 3 2 1 0 fill
            gap fill | 3 2 1 0 miss
            gap miss | 3 2 1 0 miss
            gap miss | 3 2 1 0 miss
            gap miss | 3 2 1 0 miss
            gap miss | 4 3 2 1 0
            done 0 | 4 3 2 1 miss
            gap miss | 4 3 2 1 miss
            gap miss | 4 3 2 1 miss
            gap miss | 4 3 2 1 miss
            gap miss | 5 4 3 2 1
            done 1 | 5 4 3 2 miss
            gap miss | 5 4 3 2 miss
            gap miss | 5 4 3 2 miss
            gap miss | 5 4 3 2 miss
            gap miss | 5 4 3 2 miss
            gap miss | 5 4 3 2 miss
            gap miss | 5 4 3 2 miss
            gap miss | 5 4 3 2 miss
            gap miss | 6 5 4 3 2
            done 2 | 7 6 5 4 3
            done 3 | turn turn turn turn turn
        """)
        self.assertEqual(machine.gaps(), gap_counts(fill=5, miss=16))

    def test_thirteen_gaps_one_behind_the_other(self):
        text = "hall h\nstore r0 r0 0\nstore r0 r0 8\ncode 1\nh:\nload r1 r0 16\nstop"
        machine = mill(text, [0] * 32)
        answers = []
        while machine.told()[7] == "":
            answers.append(machine.step())
        at = answers.index(("fault", 2, 2))
        self.assertEqual(answers[at + 1:], [("gap", "turn")] * 5 + [("gap", "miss")] * 8 + [("done", 3), ("done", 4)])


class Flights(Case):
    def station(self, text, steps, number, memory=FOUR, **more):
        machine = mill(text, memory, **more)
        machine.run(steps)
        return machine.stations()[number]

    def through(self, text, flights, memory=FOUR):
        """The first row at each station, where it never waits but for its line to come."""
        for steps, number, told in flights:
            station = self.station(text, steps, number, memory)
            self.assertEqual(station, ("flight",) + told, (text, steps))
            self.assertEqual(type(station[4]), type(told[3]))

    def test_a_row_that_reckons(self):
        self.through("num r1 5", (
            (1, 0, (0, 0, 1, None, None, None, 1)), (2, 1, (0, 0, 1, None, None, None, 1)),
            (3, 2, (0, 0, 1, (), None, None, 1)), (4, 3, (0, 0, 1, (), 5, None, 1)), (5, 4, (0, 0, 1, (), 5, None, 0))))

    def test_a_row_that_reckons_for_long(self):
        self.through("div r1 r2 r2", (
            (2, 1, (0, 0, 1, None, None, None, 1)), (3, 2, (0, 0, 1, (0, 0), None, None, 5)),
            (4, 2, (0, 0, 1, (0, 0), None, None, 4)), (7, 2, (0, 0, 1, (0, 0), None, None, 1)),
            (8, 3, (0, 3, 1, (0, 0), None, None, 1)), (9, 4, (0, 3, 1, (0, 0), None, None, 0))))

    def test_a_load(self):
        self.through("load r1 r2 3", (
            (3, 2, (0, 0, 1, (0,), None, None, 1)), (4, 3, (0, 0, 1, (0,), None, 3, 5)),
            (5, 3, (0, 0, 1, (0,), None, 3, 4)), (8, 3, (0, 0, 1, (0,), None, 3, 1)),
            (9, 4, (0, 0, 1, (0,), 8, 3, 0))), [5, 6, 7, 8])

    def test_a_load_beyond(self):
        self.through("load r1 r2 4", (
            (3, 2, (0, 0, 1, (0,), None, None, 1)), (4, 3, (0, 4, 1, (0,), None, 4, 1)),
            (5, 4, (0, 4, 1, (0,), None, 4, 0))))
        self.through("store r1 r2 -1", ((5, 4, (0, 4, 1, (0, 0), None, 65535, 0)),))

    def test_a_store(self):
        self.through("store r0 r2 3", (
            (4, 3, (0, 0, 1, (0, 0), None, 3, 5)), (9, 4, (0, 0, 1, (0, 0), None, 3, 0))), [5, 6, 7, 8])
        machine = mill("store r0 r2 3", [5, 6, 7, 8])
        machine.run(8)
        self.assertEqual(machine.memory(), [5, 6, 7, 8])
        machine.run(1)
        self.assertEqual(machine.memory(), [5, 6, 7, 0])
        self.assertEqual(machine.log(), [])

    def test_no_row(self):
        for text, fault in (("", 1), ("code 1", 2)):
            self.through(text, (
                (1, 0, (0, fault, 1, None, None, None, 1)), (2, 1, (0, fault, 1, None, None, None, 1)),
                (3, 2, (0, fault, 1, None, None, None, 1)), (4, 3, (0, fault, 1, None, None, None, 1)),
                (5, 4, (0, fault, 1, None, None, None, 0))))

    def test_a_jump(self):
        self.through("link r1 9", (
            (1, 0, (0, 0, 1, None, None, None, 1)), (4, 3, (0, 0, 1, (), 1, None, 1)), (5, 4, (0, 0, 1, (), 1, None, 0))))
        self.through("go r0", ((4, 3, (0, 0, 1, (0,), None, None, 1)),))

    def test_what_is_known_at_write_has_no_value_before(self):
        for text in ("ask r1", "why r1", "where r1"):
            self.through(text, ((5, 4, (0, 0, 1, (), None, None, 0)),))

    def test_box_nought(self):
        self.through("num r0 5", ((5, 4, (0, 0, 1, (), None, None, 0)),))
        self.through("load r0 r0 0", ((9, 4, (0, 0, 1, (0,), 7, 0, 0)),), [7, 0, 0, 0])

    def test_words_are_handed_ahead_from_memory_and_write(self):
        text = "num r1 5\nnum r2 6\nadd r3 r1 r2\nadd r4 r1 r3\nstop"
        self.assertEqual(self.station(text, 5, 2), ("flight", 2, 0, 3, (5, 6), None, None, 1))
        self.assertEqual(self.station(text, 6, 2), ("flight", 3, 0, 4, (5, 11), None, None, 1))

    def test_the_youngest_word_is_had(self):
        text = "num r1 5\nnum r1 6\ntell r1\nstop"
        self.assertEqual(self.station(text, 5, 2), ("flight", 2, 0, 3, (6,), None, None, 1))

    def test_a_flight_with_a_fault_gives_to_no_box(self):
        text = "num r1 5\ndiv r1 r1 r0\ntell r1"
        self.assertEqual(self.station(text, 9, 2), ("flight", 2, 0, 3, (5,), None, None, 1))

    def test_guesses_are_told(self):
        text = "loop:\nplus r1 r1 1\njump loop"
        self.assertEqual(self.station(text, 2, 0), ("flight", 1, 0, 2, None, None, None, 1))
        self.assertEqual(self.station(text, 6, 0), ("flight", 1, 0, 0, None, None, None, 1))

    def test_a_slot_that_two_jumps_share(self):
        # Of two jumps at 0 and 2 none is guessed right, ever, where they share a slot; else both but at first.
        for size, wrong in ((1, 12), (2, 12), (3, 4), (8, 4)):
            machine = mill("loop:\njump b\nstop\nb:\njump loop", size=size)
            machine.run(24)
            self.assertEqual(machine.gaps(), gap_counts(fill=5, guess=wrong), size)


class Places(Case):
    def test_told_is_the_oldest_flights(self):
        machine = mill("num r1 5\njump 5\nstop\nstop\nstop\nstop")
        places = [machine.told()[1]]
        for _ in range(12):
            if machine.told()[7] == "":
                machine.step()
                places.append(machine.told()[1])
        self.assertEqual(places, [0, 0, 0, 0, 0, 0, 1, 5, 5, 5, 5])

    def test_the_last_place_and_places_off(self):
        text = "jump 63\n" + "code 1\n" * 62 + "num r1 5"
        machine = mill(text)
        machine.run(100)
        self.assertEqual(machine.log(), [("done", 0), ("done", 63), ("fault", 64, 1)])

    def test_far_off(self):
        machine = mill("hall 2\nplus r1 r0 -1\ngo r1\nwhere r2\nstop")
        machine.run(100)
        self.assertEqual(machine.log(), [("done", 0), ("done", 1), ("fault", 65535, 1), ("done", 2), ("done", 3)])
        self.assertEqual(machine.told()[0][2], 65535)


class Calls(Case):
    def test_where_no_flight_is_on_its_way(self):
        machine = self.goes(mill("stop\nhall 1\nnum r1 5", calls=[(0, 3)]), """
            gap fill | turn turn turn turn turn
            gap turn | 1 turn turn turn turn
        """)
        self.assertEqual(machine.log(), [("call", 3, 0)])
        self.assertEqual(machine.told()[1:5], (1, True, 19, 0))

    def test_back_is_the_oldest_flights_place(self):
        text = "num r1 1\nnum r2 2\nnum r3 3\nnum r4 4\nnum r5 5\nstop\nhall 5"
        for step, log in (
            (1, [("call", 0, 0)]), (4, [("call", 0, 0)]), (5, [("done", 0), ("call", 0, 1)]),
            (7, [("done", 0), ("done", 1), ("done", 2), ("call", 0, 3)]),
        ):
            machine = mill(text, calls=[(step, 0)])
            machine.run(step + 1)
            self.assertEqual(machine.log(), log)
            self.assertEqual(machine.stations(), TURNED)
            self.assertEqual(machine.told()[1:5], (5, True, 16, log[-1][2]))

    def test_memory_is_older_than_what_stands_behind_it(self):
        machine = mill("load r1 r0 0\nstop\nhall 1", calls=[(6, 2)])
        machine.run(7)
        self.assertEqual(machine.log(), [("call", 2, 0)])
        self.assertEqual(machine.gaps(), gap_counts(fill=5, miss=2))
        self.assertEqual(machine.parts()[7], ((), ()))

    def test_a_call_waits_till_home(self):
        text = "hall h\nloop:\nplus r1 r1 1\njump loop\nh:\nwhy r2\nhome"
        machine = mill(text, calls=[(0, 1), (0, 2), (3, 15)])
        machine.run(60)
        calls = [row for row in machine.log() if row[0] == "call"]
        self.assertEqual(calls, [("call", 1, 0), ("call", 2, 0), ("call", 15, 0)])
        homes = [at for at, row in enumerate(machine.log()) if row == ("done", 3)]
        self.assertEqual([machine.log()[at + 1] for at in homes[:2]], calls[1:])
        self.assertEqual(machine.parts()[11], ())

    def test_in_the_step_of_homes_turn(self):
        machine = mill("hall h\nnum r1 5\nask r2\nnum r3 7\nstop\nh:\nhome", calls=[(9, 4)])
        answers = []
        while len(machine.parts()[11]) == 1:
            answers.append(machine.step())
        self.assertEqual(answers[-1], ("done", 4))
        self.assertEqual(machine.log(), [("done", 0), ("fault", 1, 5), ("done", 4), ("call", 4, 1)])
        self.assertEqual(machine.stations(), TURNED)
        self.assertEqual(machine.told()[1:5], (4, True, 20, 1))

    def test_not_in_the_step_of_a_fault_or_of_the_end(self):
        machine = mill("hall 1\ncode 1\nstop", calls=[(5, 4)])
        machine.run(6)
        self.assertEqual(machine.log(), [("fault", 0, 2)])
        self.assertEqual(machine.parts()[11], ((5, 4),))
        machine = mill("hall 1\nstop", calls=[(5, 4)])
        machine.run(9)
        self.assertEqual((machine.log(), machine.told()[7], machine.parts()[11]), ([("done", 0)], "stop", ((5, 4),)))

    def test_without_a_hall_it_is_never_taken(self):
        machine = mill("jump 0", calls=[(0, 4)])
        machine.run(50)
        self.assertEqual(machine.parts()[11], ((0, 4),))
        self.assertEqual({row[0] for row in machine.log()}, {"done"})

    def test_not_ahead_of_its_step(self):
        for step in range(12):
            machine = mill("hall 1\njump 0\nstop", calls=[(step, 4)])
            machine.run(step)
            self.assertEqual(machine.parts()[11], ((step, 4),))
            machine.run(1)
            self.assertEqual(machine.parts()[11], ())
            self.assertEqual(machine.log()[-1], ("call", 4, 0))

    def test_twenty_calls(self):
        machine = mill("hall 1\njump 0\nhome", calls=[(step, step % 16) for step in range(20)])
        machine.run(200)
        self.assertEqual([row[1] for row in machine.log() if row[0] == "call"], [step % 16 for step in range(20)])

    def test_a_store_that_was_put_stays_and_one_at_memory_is_not_put(self):
        text = "hall 3\nnum r1 5\nstore r1 r0 0\nstop\nstop"
        # The line comes while the store stands at memory, from step 5 to 9; it is done in step 10.
        for step, word, done in ((9, 0, False), (10, 5, True)):
            machine = mill(text, calls=[(step, 0)])
            machine.run(step + 1)
            self.assertEqual(machine.log()[-1], ("call", 0, 2 if done else 1))
            self.assertEqual(machine.memory()[0], word)


class Ends(Case):
    def test_no_step_behind_the_end(self):
        for text in ("stop", "", "code 1"):
            machine = mill(text)
            self.assertEqual(machine.run(100), 6)
            before = machine.parts()
            for _ in range(2):
                with self.assertRaises(NoStep):
                    machine.step()
                self.assertEqual(machine.run(5), 0)
                self.assertEqual(machine.parts(), before)

    def test_run(self):
        for most, steps in ((0, 0), (1, 1), (5, 5), (8, 8), (9, 8), (1000, 8)):
            machine = mill("num r1 5\ntell r1\nstop")
            self.assertEqual(machine.run(most), steps)
            self.assertEqual(machine.steps(), steps)
            self.assertEqual(machine.told()[7], "stop" if steps == 8 else "")

    def test_run_goes_on(self):
        machine = mill("jump 0")
        self.assertEqual([machine.run(3), machine.run(0), machine.run(4), machine.steps()], [3, 0, 4, 7])


class Own(Case):
    TEXT = "hall h\nask r1\nstore r1 r0 1\ntell r1\njump 0\nh:\nhome"

    def test_what_is_handed_in_may_be_changed(self):
        memory, inputs, calls = [1, 2, 3, 4], [5, 6], [[3, 4], [30, 5]]
        machine = mill(self.TEXT, memory, inputs, calls)
        other = mill(self.TEXT, [1, 2, 3, 4], [5, 6], [(3, 4), (30, 5)])
        memory[1] = 9
        inputs.append(9)
        calls[0][0] = 9
        calls.append([40, 6])
        for _ in range(60):
            self.assertEqual(machine.parts(), other.parts())
            self.assertEqual(machine.step(), other.step())

    def test_what_is_handed_in_stays(self):
        memory, inputs, calls = [1, 2, 3, 4], [5, 6], [[3, 4], [30, 5]]
        mill(self.TEXT, memory, inputs, calls).run(60)
        self.assertEqual((memory, inputs, calls), ([1, 2, 3, 4], [5, 6], [[3, 4], [30, 5]]))

    def test_what_is_told_stays_and_may_be_changed(self):
        machine = mill(self.TEXT, [1, 2, 3, 4], [5, 6], [(3, 4), (30, 5)])
        for _ in range(60):
            told = (machine.log(), machine.gaps(), machine.memory(), machine.stations(), machine.parts(), machine.told())
            copied = (list(told[0]), dict(told[1]), list(told[2])) + told[3:]
            before = repr(told)
            machine.step()
            self.assertEqual(repr(told), before)
            self.assertEqual(told, copied)
            parts = machine.parts()
            machine.log().append(5)
            machine.gaps()["fill"] = 99
            machine.memory()[0] = 99
            self.assertEqual(machine.parts(), parts)

    def test_kinds(self):
        machine = mill(self.TEXT, [1, 2, 3, 4], [5, 6], [(3, 4), (30, 5)])
        machine.run(25)
        self.assertIs(type(machine.log()), list)
        self.assertIs(type(machine.gaps()), dict)
        self.assertIs(type(machine.memory()), list)
        for part in (machine.told(), machine.told()[0], machine.told()[5], machine.told()[6], machine.stations(),
                     machine.parts()):
            self.assertIs(type(part), tuple)
        parts = machine.parts()
        for number in (0, 1, 2, 3, 5, 7, 8, 11, 12, 13, 14):
            self.assertIs(type(parts[number]), tuple)
        self.assertEqual(parts[14], machine.stations())
        self.assertEqual(parts[12], tuple(machine.log()))
        self.assertEqual(parts[13], tuple(machine.gaps().values()))


def listed(thing):
    return [listed(part) for part in thing] if isinstance(thing, tuple) else thing


class With(Case):
    TEXT = "hall h\nask r1\nstore r1 r0 1\nmul r2 r1 r1\nload r3 r2 0\njump 0\nh:\nwhy r4\nwhere r5\nplus r5 r5 1\naim r5\nhome"

    def test_both_go_on_alike(self):
        for make in (tuple, listed):
            machine = mill(self.TEXT, list(range(16)), [3, 1, 2], [(3, 4), (30, 5)], 1, 3)
            for _ in range(120):
                other = mill_with(machine.program, make(machine.parts()))
                self.assertIsInstance(other, Mill)
                self.assertIs(other.program, machine.program)
                self.assertEqual(other.parts(), machine.parts())
                self.assertEqual(other.told(), machine.told())
                self.assertEqual(other.memory(), machine.memory())
                self.assertEqual((other.log(), other.gaps(), other.steps()), (machine.log(), machine.gaps(), machine.steps()))
                before = machine.parts()
                answers = [other.step() for _ in range(3)]
                self.assertEqual(machine.parts(), before)
                self.assertEqual(answers[0], machine.step())
            self.assertEqual(machine.steps(), 120)

    def test_the_handed_parts_may_be_changed(self):
        machine = mill(self.TEXT, list(range(16)), [3, 1, 2], [(3, 4), (90, 5)], 1, 3)
        machine.run(50)
        parts = listed(machine.parts())
        other = mill_with(machine.program, parts)
        for part in parts:
            if isinstance(part, list):
                part.clear()
        self.assertEqual(other.parts(), machine.parts())

    def test_behind_the_end(self):
        machine = mill("tell r1\nstop")
        machine.run(50)
        other = mill_with(machine.program, machine.parts())
        self.assertEqual(other.parts(), machine.parts())
        with self.assertRaises(NoStep):
            other.step()


if __name__ == "__main__":
    unittest.main()
