import random
import unittest

from rowmill.errors import NoSize
from rowmill.guesses import Guesses, with_slots


class Made(unittest.TestCase):
    def test_sizes(self):
        for size in (1, 2, 8, 15, 16):
            self.assertEqual(Guesses(size).slots(), (None,) * size)
            self.assertEqual(Guesses(size=size).slots(), (None,) * size)
        self.assertEqual(Guesses().slots(), (None,) * 8)

    def test_sizes_that_are_none(self):
        for wrong in (0, 17, -1, 10 ** 30, True, False, None, "8", "", 8.0, (), [], [8], {}, object()):
            with self.subTest(size=wrong):
                with self.assertRaises(NoSize):
                    Guesses(wrong)


class Guess(unittest.TestCase):
    def test_empty(self):
        for place in (0, 1, 63, 64, 65535, 65536):
            self.assertEqual(Guesses().guess(place), place + 1)

    def test_sure(self):
        for sure, told in ((0, 6), (1, 6), (2, 40), (3, 40)):
            self.assertEqual(with_slots([None] * 5 + [(5, 40, sure)] + [None] * 2).guess(5), told)

    def test_another_place_of_the_slot(self):
        guesses = with_slots([None, (1, 40, 3)])
        self.assertEqual([guesses.guess(place) for place in (1, 3, 65, 0)], [40, 4, 66, 1])

    def test_asking_changes_nothing(self):
        guesses = with_slots([(0, 40, 2), None])
        guesses.guess(0)
        guesses.guess(1)
        guesses.guess(2)
        self.assertEqual(guesses.slots(), ((0, 40, 2), None))


class Learn(unittest.TestCase):
    def learnt(self, slot, place, goal, behind):
        guesses = with_slots([slot])
        self.assertIsNone(guesses.learn(place, goal))
        self.assertEqual(guesses.slots(), (behind,), (slot, place, goal))

    def test_the_goal_again(self):
        for sure, behind in ((0, 1), (1, 2), (2, 3), (3, 3)):
            self.learnt((5, 40, sure), 5, 40, (5, 40, behind))

    def test_the_place_behind(self):
        for sure, behind in ((3, 2), (2, 1), (1, 0), (0, 0)):
            self.learnt((5, 40, sure), 5, 6, (5, 40, behind))

    def test_a_new_goal(self):
        for sure in range(4):
            self.learnt((5, 40, sure), 5, 41, (5, 41, 2))
            self.learnt((5, 40, sure), 5, 5, (5, 5, 2))
            self.learnt((5, 40, sure), 5, 0, (5, 0, 2))

    def test_the_slots_goal_comes_ahead_of_the_place_behind(self):
        self.learnt((5, 6, 1), 5, 6, (5, 6, 2))

    def test_an_empty_slot(self):
        self.learnt(None, 5, 40, (5, 40, 2))
        self.learnt(None, 5, 6, None)
        self.learnt(None, 0, 0, (0, 0, 2))

    def test_anothers_slot(self):
        for sure in range(4):
            self.learnt((4, 40, sure), 5, 40, (5, 40, 2))
            self.learnt((4, 40, sure), 5, 4, (5, 4, 2))
            self.learnt((4, 40, sure), 5, 6, (4, 40, sure))

    def test_which_slot(self):
        for size in (1, 3, 8, 16):
            for place in (0, 1, 7, 8, 15, 16, 63, 65535):
                guesses = Guesses(size)
                guesses.learn(place, 30)
                slots = [None] * size
                slots[place % size] = (place, 30, 2)
                self.assertEqual(guesses.slots(), tuple(slots))
                self.assertEqual(guesses.guess(place), 30)

    def test_all_the_way(self):
        guesses = Guesses()
        told = []
        for goal in (2, 2, 2, 10, 10, 10, 10, 2, 2, 7):
            guesses.learn(9, goal)
            told.append((guesses.slots()[1][2], guesses.guess(9)))
        self.assertEqual(told, [(2, 2), (3, 2), (3, 2), (2, 2), (1, 10), (0, 10), (0, 10), (1, 10), (2, 2), (2, 7)])


class Own(unittest.TestCase):
    def test_what_is_told_stays(self):
        guesses = Guesses(2)
        guesses.learn(1, 9)
        slots = guesses.slots()
        guesses.learn(1, 9)
        guesses.learn(0, 9)
        self.assertEqual(slots, (None, (1, 9, 2)))
        self.assertIs(type(slots), tuple)
        self.assertIs(type(slots[1]), tuple)


class WithSlots(unittest.TestCase):
    def test_of_tuples_and_of_lists(self):
        slots = ((0, 9, 1), None, (2, 7, 3))
        for handed in (slots, list(slots), [[0, 9, 1], None, [2, 7, 3]]):
            guesses = with_slots(handed)
            self.assertIsInstance(guesses, Guesses)
            self.assertEqual(guesses.slots(), slots)
            self.assertIs(type(guesses.slots()[0]), tuple)

    def test_shares_nothing(self):
        handed = [[0, 9, 1], None]
        first, second = with_slots(handed), with_slots(handed)
        handed[0][1] = 5
        handed[1] = [1, 1, 1]
        first.learn(0, 9)
        self.assertEqual(first.slots(), ((0, 9, 2), None))
        self.assertEqual(second.slots(), ((0, 9, 1), None))
        third = with_slots(first.slots())
        third.learn(1, 8)
        self.assertEqual(first.slots(), ((0, 9, 2), None))

    def test_goes_on_alike(self):
        for seed in range(20):
            chance = random.Random(seed)
            guesses = Guesses(chance.choice((1, 2, 8, 16)))
            for _ in range(100):
                other = with_slots(guesses.slots())
                place, goal = chance.randrange(12), chance.randrange(14)
                guesses.learn(place, goal)
                other.learn(place, goal)
                self.assertEqual(other.slots(), guesses.slots())
                self.assertEqual([other.guess(p) for p in range(12)], [guesses.guess(p) for p in range(12)])

    def test_sizes(self):
        for size in (1, 16):
            self.assertEqual(with_slots([None] * size).slots(), (None,) * size)


if __name__ == "__main__":
    unittest.main()
