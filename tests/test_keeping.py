import random
import re
import unittest

from tests.mill_programs import FAULTS, SETS
from rowmill.errors import NoText
from rowmill.keeping import kept, woken
from rowmill.mill import Mill
from rowmill.reading import read

REASONS = ("fill", "turn", "guess", "hold", "alone", "slow", "miss")
TEXT = "hall h\nload r1 r0 4\nadd r2 r1 r1\nstore r2 r0 0\ntell r2\njump 0\nh:\nhome"
AT_FIRST = """hall -
codes 0
boxes 0 0 0 0 0 0 0 0
flags no 0 0
said -
left -
end on
slow 1 2 3 4
sets 2
slot -
slot -
slot -
slot -
slot -
slot -
slot -
slot -
next 0
steps 0
gaps 0 0 0 0 0 0 0
gap fill
gap fill
gap fill
gap fill
gap fill
"""
OF_NO_CODES = """hall 7
codes -
boxes 0 0 0 0 0 0 0 0
flags no 0 0
said -
left 5 6
end on
slow 9 9 9 9 9 9 9 9
sets 4
slot -
next 0
steps 0
call 3 4
call 30 5
gaps 0 0 0 0 0 0 0
gap fill
gap fill
gap fill
gap fill
gap fill
"""
BEHIND_TWELVE = """hall 5
codes 7929860 1713152 8519680 11665408 8912896 13631488
boxes 0 4 8 0 0 0 0 0
flags no 0 0
said -
left 5
end on
slow 0 1 2 3 4 5 6 7
sets 2
line 1 1 4 5 6 7 no
slot -
slot -
next 6
steps 12
call 22 3
call 500 1
log done 0
log done 1
gaps 5 0 0 1 0 0 4
flight 5 0 6 - - - 1
flight 4 0 5 - - - 1
flight 3 0 4 8 - - 1
flight 2 0 3 8,0 - 0 4
gap miss
"""
BEHIND_TWENTY_SIX = """hall 5
codes 7929860 1713152 8519680 11665408 8912896 13631488
boxes 0 4 8 0 0 0 0 0
flags yes 19 1
said 8
left 5
end on
slow 0 1 2 3 4 5 6 7
sets 2
line 0 0 8 1 2 3 yes
line 1 1 4 5 6 7 no
slot 4 0 2
slot -
next 8
steps 26
call 500 1
log done 0
log done 1
log done 2
log done 3
log done 4
log done 0
log call 3 1
gaps 5 3 2 2 0 0 8
flight 7 1 8 - - - 1
flight 6 1 7 - - - 1
flight 5 0 6 none - - 1
gap turn
gap turn
"""

# A text with rows of every kind; what rows say to one another isn't looked at.
WHOLE = """hall 5
codes 0 589829 16777215
boxes 0 1 2 3 4 5 6 65535
flags yes 21 3
said 7 0 65535
left 8 9
end on
slow 0 1 2 3 4 5 6 7
sets 2
line 0 0 1 2 3 4 yes
line 1 1 5 6 7 65535 no
slot 3 0 2
slot -
next 9
steps 40
call 41 15
call 50 0
log done 0
log fault 1 3
log call 5 2
gaps 5 1 2 3 4 6 7
flight 8 0 9 - - - 1
gap hold
flight 6 0 7 none 5 - 1
flight 5 4 6 1,65535 - 9 1
flight 4 0 5 65535 7 6 0
"""

# Which rows there are in turn, and how many of each at least and at most.
SEQUENCE = (
    ("hall", 1, 1), ("codes", 1, 1), ("boxes", 1, 1), ("flags", 1, 1), ("said", 1, 1), ("left", 1, 1), ("end", 1, 1),
    ("slow", 1, 1), ("sets", 1, 1), ("line", 0, 10 ** 9), ("slot", 1, 16), ("next", 1, 1), ("steps", 1, 1),
    ("call", 0, 20), ("log", 0, 10 ** 9), ("gaps", 1, 1), ("gap|flight", 5, 5),
)
FORMS = {
    "hall": "-|N", "codes": "-|N( N){0,63}", "boxes": "N( N){7}", "flags": "(yes|no) N N", "said": "-|N( N)*",
    "left": "-|N( N){0,59}", "end": "on|stop|lost", "slow": "N N N N( N N N N){0,15}", "sets": "1|2|4",
    "line": "N N N N N N (yes|no)", "slot": "-|N N N", "next": "N", "steps": "N", "call": "N N",
    "log": "done N|(fault|call) N N", "gaps": "N( N){6}", "gap": "|".join(REASONS),
    "flight": "N N N (-|none|N|N,N) (-|N) (-|N) N",
}
LAST = {"hall": 1023, "codes": 16777215, "boxes": 65535, "said": 65535, "left": 65535, "slow": 65535}


def figures_in(text):
    return [int(figures) for figures in re.findall("[0-9]+", text)]


def can_stand(row):
    word, blank, things = row.partition(" ")
    form = FORMS.get(word, "").replace("N", "(0|[1-9][0-9]*)")
    if not blank or word not in FORMS or not re.fullmatch(form, things):
        return False
    numbers = figures_in(things)
    if word == "call":
        return numbers[1] <= 15
    if word == "line":
        return max(numbers[2:]) <= 65535
    if word == "flight":
        return max(figures_in(" ".join(things.split(" ")[3:5])), default=0) <= 65535
    return word not in LAST or max(numbers, default=0) <= LAST[word]


def first_wrong(text):
    """The number of the first row that can't stand where it stands, None where all can."""
    *rows, behind = text.split("\n")
    at = 0
    for words, least, most in SEQUENCE:
        many = 0
        while at < len(rows) and many < most and rows[at].split(" ")[0] in words.split("|"):
            if not can_stand(rows[at]):
                return at
            at, many = at + 1, many + 1
        if many < least:
            return at
    return at if at < len(rows) or behind else None


def rows_of(text):
    return text.split("\n")[:-1]


def text_of(rows):
    return "".join(row + "\n" for row in rows)


def at_of(begin):
    return [at for at, row in enumerate(rows_of(WHOLE)) if row.startswith(begin)][0]


class Case(unittest.TestCase):
    def refused(self, text, at):
        with self.subTest(text):
            with self.assertRaises(NoText) as taken:
                woken(text)
            self.assertIs(type(taken.exception.at), int)
            self.assertEqual(taken.exception.at, at)

    def judged(self, text):
        at = first_wrong(text)
        if at is None:
            with self.subTest(text):
                self.assertIsInstance(woken(text), Mill)
        else:
            self.refused(text, at)
        return at

    def with_row(self, begin, row):
        rows = rows_of(WHOLE)
        rows[at_of(begin)] = row
        return text_of(rows)

    def not_there(self, begin, *rows):
        for row in rows:
            self.refused(self.with_row(begin, row), at_of(begin))
            self.assertEqual(first_wrong(self.with_row(begin, row)), at_of(begin), row)

    def there(self, begin, *rows):
        for row in rows:
            with self.subTest(row):
                self.assertIsInstance(woken(self.with_row(begin, row)), Mill)


class Kept(unittest.TestCase):
    def machine(self, steps):
        machine = Mill(read(TEXT), list(range(8)), [5], [(22, 3), (500, 1)], 2, 2)
        machine.run(steps)
        return machine

    def test_at_first(self):
        self.assertEqual(kept(Mill(read("stop"), [1, 2, 3, 4])), AT_FIRST)
        self.assertEqual(kept(Mill(read("hall 7"), [9] * 8, [5, 6], [(3, 4), (30, 5)], 4, 1)), OF_NO_CODES)

    def test_on_its_way(self):
        self.assertEqual(kept(self.machine(12)), BEHIND_TWELVE)
        self.assertEqual(kept(self.machine(26)), BEHIND_TWENTY_SIX)

    def test_the_end(self):
        for text, end, row in (("stop", "stop", "log done 0"), ("code 1", "lost", "log fault 0 2")):
            machine = Mill(read(text), [0] * 4)
            machine.run(99)
            rows = rows_of(kept(machine))
            self.assertIn(f"end {end}", rows)
            self.assertIn(row, rows)
            self.assertEqual(rows[-5:], ["gap turn"] * 5)

    def test_keeping_changes_nothing(self):
        machine = self.machine(12)
        parts = machine.parts()
        kept(machine)
        self.assertEqual(machine.parts(), parts)

    def test_what_is_kept_can_stand(self):
        for steps in range(60):
            self.assertIsNone(first_wrong(kept(self.machine(steps))))


class Woken(unittest.TestCase):
    def test_goes_on_alike_from_every_step(self):
        for text, memory, inputs, calls, sets, size in (
            (TEXT, list(range(8)), [5], [(22, 3), (500, 1)], 2, 2), (FAULTS, [0] * 4, [5], [(7, 1), (60, 2)], 1, 16),
            (SETS, list(range(64)), None, None, 4, 1),
        ):
            machine = Mill(read(text), memory, inputs, calls, sets, size)
            while machine.steps() < 100:
                told = kept(machine)
                other = woken(told)
                self.assertIsInstance(other, Mill)
                self.assertEqual(kept(other), told)
                self.assertEqual(other.parts(), machine.parts())
                self.assertEqual((other.told(), other.memory()), (machine.told(), machine.memory()))
                self.assertEqual(other.program.codes, machine.program.codes)
                self.assertEqual(other.program.hall, machine.program.hall)
                far = woken(told)
                far.run(30)
                self.assertEqual(machine.step(), other.step())
                self.assertEqual(other.parts(), machine.parts())
                near = woken(told)
                near.run(30)
                self.assertEqual(near.parts(), far.parts())

    def test_behind_the_end(self):
        machine = Mill(read("tell r1\nstop"), [0] * 4)
        machine.run(99)
        other = woken(kept(machine))
        self.assertEqual(other.parts(), machine.parts())
        self.assertEqual(other.run(5), 0)

    def test_the_whole_text_is_kept_again(self):
        machine = woken(WHOLE)
        self.assertEqual(kept(machine), WHOLE)
        self.assertEqual(machine.log(), [("done", 0), ("fault", 1, 3), ("call", 5, 2)])
        self.assertEqual(machine.stations(), (
            ("flight", 8, 0, 9, None, None, None, 1), ("gap", "hold"), ("flight", 6, 0, 7, (), 5, None, 1),
            ("flight", 5, 4, 6, (1, 65535), None, 9, 1), ("flight", 4, 0, 5, (65535,), 7, 6, 0)))

    def test_two_share_nothing(self):
        machine = Mill(read(SETS), list(range(64)))
        machine.run(40)
        parts, text = machine.parts(), kept(machine)
        first, second = woken(text), woken(text)
        first.run(50)
        self.assertEqual((second.parts(), machine.parts()), (parts, parts))


class RowByRow(Case):
    def test_each_row_of_the_whole_can_stand(self):
        self.assertIsNone(first_wrong(WHOLE))
        for begin in ("hall", "codes", "boxes", "slot 3", "gap hold", "flight 8"):
            self.there(begin, rows_of(WHOLE)[at_of(begin)])

    def test_hall(self):
        self.there("hall", "hall -", "hall 0", "hall 1023")
        self.not_there("hall", "hall", "hall ", "hall 1024", "hall -1", "hall 5 5", "hall 05", "hall  5", "hall 5 ",
                       " hall 5", "hall x", "hall yes", "hall --", "hall none", "Hall 5", "", "halls 5", "hall +5", "hall 00")

    def test_codes(self):
        self.there("codes", "codes -", "codes 0", "codes 16777215", "codes" + " 1" * 64)
        self.not_there("codes", "codes", "codes 16777216", "codes 0 16777216 0", "codes -1", "codes - -", "codes 0 -",
                       "codes - 0", "codes" + " 1" * 65, "codes 01", "codes x", "codes 0  0", "codes 0,0", "code 0")

    def test_boxes(self):
        self.there("boxes", "boxes 0 0 0 0 0 0 0 0", "boxes 0" + " 65535" * 7)
        self.not_there("boxes", "boxes", "boxes -", "boxes" + " 0" * 7, "boxes" + " 0" * 9, "boxes 65536" + " 0" * 7,
                       "boxes" + " 0" * 7 + " 65536", "boxes 00" + " 0" * 7, "boxes" + " 0" * 7 + " x",
                       "boxes" + " 0" * 7 + " -", "boxes" + " 0" * 8 + " ")

    def test_flags(self):
        self.there("flags", "flags no 0 0", "flags yes 31 65535", "flags yes 99999999999 123456789012")
        self.not_there("flags", "flags", "flags yes", "flags yes 1", "flags yes 1 2 3", "flags 1 1 2", "flags True 1 2",
                       "flags - 1 2", "flags yes - 2", "flags yes 1 -", "flags yes 01 2", "flags yes 1 02", "flags Yes 1 2",
                       "flags on 1 2", "flags yes x 2", "flags yes -1 2")

    def test_said(self):
        self.there("said", "said -", "said 0", "said 65535", "said" + " 7" * 500)
        self.not_there("said", "said", "said 65536", "said 1 65536", "said -1", "said 1 -", "said 01", "said x", "said none",
                       "said 1 ", "said  1")

    def test_left(self):
        self.there("left", "left -", "left 65535", "left" + " 7" * 60)
        self.not_there("left", "left", "left 65536", "left" + " 7" * 61, "left 7 07", "left - 7", "left x", "left none")

    def test_end(self):
        self.there("end", "end on", "end stop", "end lost")
        self.not_there("end", "end", "end -", "end ", "end off", "end ON", "end on on", "end stop lost", "end stopped", "end 0")

    def test_slow(self):
        self.there("slow", "slow 0 0 0 65535", "slow" + " 1" * 64, "slow" + " 1" * 60)
        self.not_there("slow", "slow", "slow -", "slow 0", "slow 0 0 0", "slow 0 0 0 0 0", "slow" + " 1" * 68,
                       "slow" + " 1" * 62, "slow 0 0 0 65536", "slow 0 0 0 00", "slow 0 0 0 x", "slow - - - -", "slow 0 0 0 ")

    def test_sets(self):
        self.there("sets", "sets 1", "sets 2", "sets 4")
        self.not_there("sets", "sets", "sets 0", "sets 3", "sets 8", "sets 02", "sets -", "sets 2 2", "sets x", "sets yes")

    def test_lines(self):
        self.there("line 0", "line 0 0 65535 0 0 0 no", "line 9 99 0 0 0 0 yes", "line 12345678901 2 0 0 0 0 no")
        self.not_there("line 0", "line", "line -", "line 0 0 1 2 3 4", "line 0 0 1 2 3 yes", "line 0 0 1 2 3 4 5 yes",
                       "line 0 0 1 2 3 4 1", "line 0 0 1 2 3 4 -", "line 0 0 1 2 3 65536 no", "line 0 0 65536 2 3 4 no",
                       "line 00 0 1 2 3 4 no", "line 0 x 1 2 3 4 no", "line 0 0 01 2 3 4 no", "line - 0 1 2 3 4 no",
                       "line 0 0 1 2 3 4 no no", "lines 0 0 1 2 3 4 no")

    def test_slots(self):
        self.there("slot 3", "slot -", "slot 0 0 0", "slot 65536 99999 77")
        self.not_there("slot 3", "slot", "slot 1", "slot 1 2", "slot 1 2 3 4", "slot - -", "slot - 0 2", "slot 1 2 -",
                       "slot 01 2 3", "slot 1 2 x", "slot none")

    def test_next_and_steps(self):
        for word in ("next", "steps"):
            self.there(word, f"{word} 0", f"{word} 65536", f"{word} 123456789012345678901234567890", f"{word} " + "9" * 4000)
            self.not_there(word, word, f"{word} ", f"{word} -", f"{word} 1 2", f"{word} 01", f"{word} x", f"{word} -1",
                           f"{word} 1.0", f"{word}s 1")

    def test_calls(self):
        self.there("call 41", "call 0 0", "call 123456789012 15")
        self.not_there("call 41", "call", "call 1", "call 1 2 3", "call 1 16", "call 01 2", "call 1 02", "call - 2",
                       "call 1 -", "call -1 2", "call x 2", "call 1 x")

    def test_log(self):
        self.there("log done", "log done 99999999", "log fault 9 99", "log call 99 9")
        self.not_there("log done", "log", "log -", "log done", "log done 1 2", "log fault 1", "log fault 1 2 3", "log call 1",
                       "log call 1 2 3", "log gap fill", "log gone 1", "log done 01", "log done -", "log fault 1 -",
                       "log call x 1", "log 1", "log done -1", "log Done 1")

    def test_gaps(self):
        self.there("gaps", "gaps 0 0 0 0 0 0 0", "gaps 0 0 0 0 0 0 99999999999")
        self.not_there("gaps", "gaps", "gaps -", "gaps 0 0 0 0 0 0", "gaps 0 0 0 0 0 0 0 0", "gaps 0 0 0 0 0 0 00",
                       "gaps 0 0 0 0 0 0 x", "gaps 0 0 0 0 0 0 -", "gap 0 0 0 0 0 0 0")

    def test_gap_of_a_station(self):
        for begin in ("gap hold", "flight 8", "flight 4"):
            self.there(begin, *[f"gap {reason}" for reason in REASONS])
            self.not_there(begin, "gap", "gap ", "gap -", "gap none", "gap fills", "gap Fill", "gap fill fill", "gap 0", "fill")

    def test_flights(self):
        for begin in ("gap hold", "flight 8", "flight 4"):
            self.there(begin, "flight 0 0 0 - - - 0", "flight 65536 99 12345678901 none 65535 99999999 77",
                       "flight 1 0 2 65535 0 0 1", "flight 1 0 2 0,65535 - 3 1")
            self.not_there(
                begin, "flight", "flight 1 0 2 - - -", "flight 1 0 2 - - - 1 1", "flight - 0 2 - - - 1",
                "flight 1 - 2 - - - 1", "flight 1 0 - - - - 1", "flight 1 0 2 - - - -", "flight 1 0 2 65536 - - 1",
                "flight 1 0 2 1,65536 - - 1", "flight 1 0 2 65536,1 - - 1", "flight 1 0 2 1,2,3 - - 1",
                "flight 1 0 2 1, - - 1", "flight 1 0 2 ,1 - - 1", "flight 1 0 2 , - - 1", "flight 1 0 2 1,- - - 1",
                "flight 1 0 2 none,1 - - 1", "flight 1 0 2 01 - - 1", "flight 1 0 2 1,02 - - 1", "flight 1 0 2 x - - 1",
                "flight 1 0 2 - 65536 - 1", "flight 1 0 2 - none - 1", "flight 1 0 2 - 01 - 1", "flight 1 0 2 - - x 1",
                "flight 1 0 2 - - none 1", "flight 1 0 2 - - 01 1", "flight 01 0 2 - - - 1", "flight 1 00 2 - - - 1",
                "flight 1 0 02 - - - 1", "flight 1 0 2 - - - 01", "flight 1 0 2  - - - 1", "flight x 0 2 - - - 1",
                "flight 1 0 2 -,- - - 1", "flight 1 0 2 no - - 1")


class HowMany(Case):
    def more(self, begin, row, many):
        rows = rows_of(WHOLE)
        at = at_of(begin)
        return text_of(rows[:at] + [row] * many + rows[at:]), at

    def test_slots(self):
        text, at = self.more("slot 3", "slot -", 14)
        self.assertEqual(len(woken(text).parts()[8]), 16)
        text, at = self.more("slot 3", "slot -", 15)
        self.refused(text, at + 16)
        rows = [row for row in rows_of(WHOLE) if not row.startswith("slot")]
        self.refused(text_of(rows), at)

    def test_calls(self):
        text, at = self.more("call 41", "call 1 1", 18)
        self.assertEqual(len(woken(text).parts()[11]), 20)
        text, at = self.more("call 41", "call 1 1", 19)
        self.refused(text, at + 20)
        rows = [row for row in rows_of(WHOLE) if not row.startswith("call")]
        self.assertEqual(woken(text_of(rows)).parts()[11], ())

    def test_lines_and_log(self):
        for begin, row in (("line", "line 0 7 1 2 3 4 no"), ("log", "log done 5")):
            text, _ = self.more(begin, row, 40)
            self.assertIsInstance(woken(text), Mill)
            rows = [row for row in rows_of(WHOLE) if not row.startswith(begin)]
            self.assertIsInstance(woken(text_of(rows)), Mill)

    def test_stations(self):
        rows = rows_of(WHOLE)
        self.refused(text_of(rows[:-1]), len(rows) - 1)
        self.refused(text_of(rows[:-5]), len(rows) - 5)
        self.refused(text_of(rows + ["gap fill"]), len(rows))
        self.refused(text_of(rows + ["flight 0 0 0 - - - 1"]), len(rows))
        self.refused(text_of(rows + [""]), len(rows))
        self.refused(text_of(rows + ["x"]), len(rows))


class Texts(Case):
    def test_nothing(self):
        self.refused("", 0)
        self.refused("\n", 0)
        self.refused("hall 5", 0)
        self.refused("x", 0)
        self.refused("hall 5\n", 1)
        self.refused("hall 5\ncodes 0", 1)

    def test_behind_the_last_line_end(self):
        many = len(rows_of(WHOLE))
        for behind in (" ", "x", "gap fill", "hall 5", "-", ";"):
            self.refused(WHOLE + behind, many)
        self.refused(WHOLE[:-1], many - 1)

    def test_cut_off_anywhere(self):
        for end in range(len(WHOLE)):
            self.refused(WHOLE[:end], WHOLE[:end].count("\n"))

    def test_rows_less_more_twice_exchanged(self):
        for text in (WHOLE, BEHIND_TWELVE, BEHIND_TWENTY_SIX, AT_FIRST, OF_NO_CODES):
            rows = rows_of(text)
            for at in range(len(rows)):
                self.judged(text_of(rows[:at] + rows[at + 1:]))
                self.judged(text_of(rows[:at] + [rows[at]] + rows[at:]))
                self.judged(text_of(rows[:at] + [""] + rows[at:]))
                self.judged(text_of(rows[:at]))
                for other in range(at + 1, len(rows)):
                    changed = list(rows)
                    changed[at], changed[other] = rows[other], rows[at]
                    self.judged(text_of(changed))

    def test_single_signs_changed(self):
        chance = random.Random(5)
        refused = 0
        for text in (WHOLE, BEHIND_TWELVE, BEHIND_TWENTY_SIX):
            for _ in range(1500):
                at = chance.randrange(len(text))
                sign = chance.choice(" \n-,0123456789abcdefghilmnopqrstuwxy")
                way = chance.choice(("put", "instead", "away"))
                changed = text[:at] + (sign if way != "away" else "") + text[at + (way != "put"):]
                refused += self.judged(changed) is not None
        self.assertGreater(refused, 1000)

    def test_the_first_of_several(self):
        rows = rows_of(WHOLE)
        for first in range(len(rows)):
            changed = [row if at < first else row + " x" for at, row in enumerate(rows)]
            self.refused(text_of(changed), first)


if __name__ == "__main__":
    unittest.main()
