import random
import unittest

from rowmill.errors import MillError, NoPlace, NoSets
from rowmill.near import Near, with_held
from rowmill.slow import Slow

NO_NUMBERS = (True, False, None, "0", "", "a", 1.0, (), [], [0], {})


def words_from(first):
    return tuple(range(first, first + 4))


def near_of(many=32, sets=2):
    """Words that are their own addresses."""
    slow = Slow(list(range(many)))
    return slow, Near(slow, sets)


class Made(unittest.TestCase):
    def test_sets(self):
        for sets in (1, 2, 4):
            _, near = near_of(sets=sets)
            self.assertEqual(near.held(), ((),) * sets)
        self.assertEqual(Near(Slow([0] * 4)).held(), ((), ()))
        self.assertEqual(Near(Slow([0] * 4), sets=4).held(), ((),) * 4)

    def test_sets_that_are_none(self):
        for wrong in (0, 3, 5, 8, -1, -2, 16, 10 ** 30, 2.0) + NO_NUMBERS:
            with self.subTest(sets=wrong):
                with self.assertRaises(NoSets):
                    Near(Slow([0] * 4), wrong)

    def test_making_one_asks_nothing(self):
        slow, _ = near_of()
        self.assertEqual((slow.reads(), slow.writes()), (0, 0))


class Lines(unittest.TestCase):
    def test_a_line_comes(self):
        slow, near = near_of()
        self.assertEqual(near.get(6), 6)
        self.assertEqual(near.held(), ((), ((1, (4, 5, 6, 7), False),)))
        self.assertEqual(slow.reads(), 1)
        self.assertEqual([near.get(address) for address in (4, 5, 7)], [4, 5, 7])
        self.assertEqual((slow.reads(), slow.writes()), (1, 0))

    def test_which_set(self):
        for sets in (1, 2, 4):
            for address in range(32):
                _, near = near_of(sets=sets)
                near.get(address)
                number = address // 4
                held = [()] * sets
                held[number % sets] = ((number, words_from(4 * number), False),)
                self.assertEqual(near.held(), tuple(held))

    def test_put(self):
        slow, near = near_of()
        self.assertIsNone(near.put(6, 99))
        self.assertEqual(near.held(), ((), ((1, (4, 5, 99, 7), True),)))
        self.assertEqual(near.get(6), 99)
        self.assertEqual(slow.whole(), list(range(32)))
        self.assertEqual((slow.reads(), slow.writes()), (1, 0))

    def test_the_same_word_put_is_a_change(self):
        _, near = near_of()
        near.put(6, 6)
        self.assertEqual(near.held(), ((), ((1, (4, 5, 6, 7), True),)))

    def test_a_get_does_not_take_the_change_away(self):
        _, near = near_of()
        near.put(6, 9)
        near.get(7)
        self.assertIs(near.held()[1][0][2], True)

    def test_room_for_two(self):
        slow, near = near_of(sets=1)
        near.get(0)
        near.get(4)
        self.assertEqual([line[0] for line in near.held()[0]], [1, 0])
        near.get(8)
        self.assertEqual([line[0] for line in near.held()[0]], [2, 1])
        self.assertEqual((slow.reads(), slow.writes()), (3, 0))

    def test_the_one_asked_longest_ago_goes(self):
        for again in ("get", "put"):
            _, near = near_of(sets=1)
            near.get(0)
            near.get(4)
            near.get(1) if again == "get" else near.put(1, 5)
            self.assertEqual([line[0] for line in near.held()[0]], [0, 1])
            near.get(8)
            self.assertEqual([line[0] for line in near.held()[0]], [2, 0])

    def test_a_changed_line_goes(self):
        slow, near = near_of(sets=1)
        near.put(1, 77)
        near.get(4)
        self.assertEqual(slow.writes(), 0)
        near.get(8)
        self.assertEqual(slow.whole()[:4], [0, 77, 2, 3])
        self.assertEqual((slow.reads(), slow.writes()), (3, 1))
        self.assertEqual(near.get(1), 77)
        self.assertIs(near.held()[0][0][2], False)
        self.assertEqual(slow.writes(), 1)

    def test_a_changed_line_goes_for_a_put(self):
        slow, near = near_of(sets=1)
        near.put(0, 70)
        near.put(4, 74)
        near.put(8, 78)
        self.assertEqual(near.held(), (((2, (78, 9, 10, 11), True), (1, (74, 5, 6, 7), True)),))
        self.assertEqual(slow.whole()[:12], [70, 1, 2, 3, 4, 5, 6, 7, 8, 9, 10, 11])

    def test_sets_do_not_push_one_another(self):
        slow, near = near_of(sets=4)
        for number in range(8):
            near.get(4 * number)
        self.assertEqual([[line[0] for line in room] for room in near.held()], [[4, 0], [5, 1], [6, 2], [7, 3]])
        self.assertEqual(slow.reads(), 8)

    def test_the_least_memory(self):
        slow = Slow([5, 6, 7, 8])
        near = Near(slow, 4)
        near.put(3, 9)
        self.assertEqual(near.held(), (((0, (5, 6, 7, 9), True),), (), (), ()))


class Cost(unittest.TestCase):
    def test_one_five_and_nine(self):
        _, near = near_of(sets=1)
        self.assertEqual(near.cost(0), 5)
        near.put(0, 9)
        self.assertEqual([near.cost(0), near.cost(3), near.cost(4)], [1, 1, 5])
        near.get(4)
        self.assertEqual([near.cost(0), near.cost(4), near.cost(8)], [1, 1, 9])
        near.get(0)
        self.assertEqual(near.cost(8), 5)
        near.settle()
        near.get(4)
        self.assertEqual(near.cost(8), 5)

    def test_by_sets(self):
        _, near = near_of(sets=2)
        near.put(0, 9)
        near.put(8, 9)
        self.assertEqual([near.cost(4 * number) for number in range(8)], [1, 5, 1, 5, 9, 5, 9, 5])

    def test_changes_nothing(self):
        slow, near = near_of(sets=1)
        near.put(0, 9)
        near.get(4)
        before = (near.held(), slow.whole(), slow.reads(), slow.writes())
        for address in range(32):
            near.cost(address)
            near.look(address)
        self.assertEqual((near.held(), slow.whole(), slow.reads(), slow.writes()), before)
        near.get(8)
        self.assertEqual([line[0] for line in near.held()[0]], [2, 1])


class Look(unittest.TestCase):
    def test_near_and_far(self):
        _, near = near_of(sets=1)
        self.assertEqual([near.look(address) for address in range(32)], list(range(32)))
        near.put(5, 99)
        self.assertEqual(near.look(5), 99)
        near.get(8)
        near.get(12)
        self.assertEqual(near.look(5), 99)
        self.assertEqual(near.held()[0][0][0], 3)


class Settle(unittest.TestCase):
    def test_each_changed_line(self):
        slow, near = near_of(sets=2)
        near.put(0, 90)
        near.get(8)
        near.put(7, 97)
        self.assertIsNone(near.settle())
        self.assertEqual(slow.whole()[:12], [90, 1, 2, 3, 4, 5, 6, 97, 8, 9, 10, 11])
        self.assertEqual(slow.writes(), 2)
        self.assertEqual(near.held(), (
            ((2, (8, 9, 10, 11), False), (0, (90, 1, 2, 3), False)), ((1, (4, 5, 6, 97), False),)))
        near.settle()
        self.assertEqual((slow.reads(), slow.writes()), (3, 2))
        near.put(0, 91)
        near.settle()
        self.assertEqual((slow.whole()[0], slow.writes()), (91, 3))

    def test_of_nothing(self):
        slow, near = near_of()
        near.settle()
        self.assertEqual((slow.whole(), slow.writes()), (list(range(32)), 0))


class Refused(unittest.TestCase):
    def test_what_is_no_address(self):
        for many in (4, 64):
            slow, near = near_of(many)
            near.put(1, 9)
            before = (near.held(), slow.whole(), slow.reads(), slow.writes())
            for wrong in (-1, -many, many, many + 1, 65535, 10 ** 30, -10 ** 30) + NO_NUMBERS:
                for ask in (near.get, near.cost, near.look, lambda address: near.put(address, 5)):
                    with self.subTest(many=many, address=wrong):
                        with self.assertRaises(NoPlace):
                            ask(wrong)
            self.assertEqual((near.held(), slow.whole(), slow.reads(), slow.writes()), before)

    def test_it_is_a_mill_error(self):
        with self.assertRaises(MillError):
            near_of()[1].get(32)


class WithHeld(unittest.TestCase):
    def both(self, sets):
        slow, near = near_of(sets=sets)
        for address, word in ((0, 90), (4, None), (8, 98), (12, None), (5, 95), (20, None)):
            near.get(address) if word is None else near.put(address, word)
        return slow, near

    def test_goes_on_alike(self):
        for sets in (1, 2, 4):
            slow, near = self.both(sets)
            other_slow = Slow(slow.whole())
            other = with_held(other_slow, sets, near.held())
            self.assertIsInstance(other, Near)
            chance = random.Random(sets)
            for _ in range(200):
                self.assertEqual(other.held(), near.held())
                address, word = chance.randrange(32), chance.randrange(65536)
                self.assertEqual(other.cost(address), near.cost(address))
                if chance.random() < 0.5:
                    self.assertEqual(other.get(address), near.get(address))
                else:
                    near.put(address, word)
                    other.put(address, word)
                self.assertEqual(other_slow.whole(), slow.whole())

    def test_of_lists(self):
        slow, near = self.both(2)
        listed = [[[number, list(words), changed] for number, words, changed in room] for room in near.held()]
        other = with_held(Slow(slow.whole()), 2, listed)
        self.assertEqual(other.held(), near.held())
        third = with_held(Slow(slow.whole()), 2, listed)
        other.put(0, 1)
        other.get(16)
        self.assertEqual(third.held(), near.held())
        listed[0][0][1][0] = 5
        listed[0][0][2] = None
        listed[1].append([7, [1, 2, 3, 4], True])
        listed.append([])
        self.assertEqual(third.held(), near.held())

    def test_shares_nothing(self):
        slow, near = self.both(2)
        held = near.held()
        other = with_held(Slow(slow.whole()), 2, held)
        other.put(0, 1)
        other.put(16, 2)
        other.settle()
        self.assertEqual(near.held(), held)
        before = other.held()
        near.put(0, 3)
        near.get(28)
        self.assertEqual(other.held(), before)

    def test_of_nothing_held(self):
        slow = Slow([0] * 8)
        near = with_held(slow, 1, [[]])
        near.put(7, 5)
        self.assertEqual(near.held(), (((1, (0, 0, 0, 5), True),),))
        self.assertEqual(slow.reads(), 1)

    def test_asks_nothing(self):
        slow, near = self.both(2)
        other_slow = Slow(slow.whole())
        with_held(other_slow, 2, near.held())
        self.assertEqual((other_slow.reads(), other_slow.writes()), (0, 0))


class Own(unittest.TestCase):
    def test_what_is_told_stays(self):
        _, near = near_of()
        near.get(0)
        held = near.held()
        near.put(0, 9)
        near.get(8)
        self.assertEqual(held, (((0, (0, 1, 2, 3), False),), ()))
        for part in (held, held[0], held[0][0], held[0][0][1]):
            self.assertIs(type(part), tuple)


class ByChance(unittest.TestCase):
    """What is told is what was put there last, and else what was there at first; lines by a model of their own."""

    def test_against_a_model(self):
        for seed in range(60):
            chance = random.Random(seed)
            many, sets = 4 * chance.choice((1, 2, 3, 5, 8, 16)), chance.choice((1, 2, 4))
            last = [chance.randrange(65536) for _ in range(many)]
            slow = Slow(last)
            near = Near(slow, sets)
            rooms = [[] for _ in range(sets)]
            for _ in range(250):
                address = chance.randrange(many)
                number = address // 4
                room = rooms[number % sets]
                near_by = [line for line in room if line[0] == number]
                goes = room[1] if not near_by and len(room) == 2 else None
                self.assertEqual(near.cost(address), 1 if near_by else 9 if goes and goes[1] else 5)
                self.assertEqual(near.look(address), last[address])
                line = near_by[0] if near_by else [number, False]
                if chance.random() < 0.4:
                    last[address] = chance.randrange(65536)
                    near.put(address, last[address])
                    line[1] = True
                else:
                    self.assertEqual(near.get(address), last[address])
                room[:] = ([line] + [other for other in room if other is not line])[:2]
                if chance.random() < 0.02:
                    near.settle()
                    for line in sum(rooms, []):
                        line[1] = False
                    self.assertEqual(slow.whole(), last)
                self.assertEqual(near.held(), tuple(
                    tuple((number, tuple(last[4 * number:4 * number + 4]), changed) for number, changed in lines)
                    for lines in rooms))


if __name__ == "__main__":
    unittest.main()
