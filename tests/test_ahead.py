import random
import unittest

from rowmill.ahead import all_had, had

BOXES = (0, 11, 12, 13, 14, 15, 16, 17)


class Had(unittest.TestCase):
    def asked(self, box, flying, answer):
        for boxes in (BOXES, list(BOXES)):
            for pairs in (tuple(flying), list(flying), [list(pair) for pair in flying]):
                told = had(box, boxes, pairs)
                self.assertEqual(told, answer)
                self.assertIs(type(told), tuple)
                self.assertIs(type(told[0]), bool)

    def test_no_pairs(self):
        for box in range(8):
            self.asked(box, [], (True, BOXES[box]))

    def test_box_nought(self):
        self.asked(0, [(1, 5), (None, None)], (True, 0))
        self.assertEqual(had(0, [9] * 8, []), (True, 0))
        self.assertEqual(had(0, [9] * 8, [(0, 5)]), (True, 0))
        self.assertEqual(had(0, [9] * 8, [(0, None)]), (True, 0))

    def test_a_pair_of_this_box(self):
        for word in (0, 1, 65535):
            self.asked(3, [(3, word)], (True, word))

    def test_the_first_of_several(self):
        self.asked(3, [(3, 5), (3, 6)], (True, 5))
        self.asked(3, [(2, 4), (3, 5), (3, 6)], (True, 5))

    def test_pairs_of_others(self):
        self.asked(3, [(2, 5), (4, None), (None, None), (None, 7)], (True, 13))

    def test_not_known(self):
        self.asked(3, [(3, None)], (False, None))
        self.asked(3, [(3, None), (3, 5)], (False, None))
        self.asked(3, [(None, None), (2, 5), (3, None)], (False, None))

    def test_not_known_in_a_later_pair(self):
        self.asked(3, [(3, 5), (3, None)], (True, 5))

    def test_what_is_handed_in_stays(self):
        boxes, flying = list(BOXES), [(3, 5), (3, None)]
        had(3, boxes, flying)
        all_had([3, 4], boxes, flying)
        self.assertEqual((boxes, flying), (list(BOXES), [(3, 5), (3, None)]))


class AllHad(unittest.TestCase):
    def asked(self, reads, flying, answer):
        for boxes in (BOXES, list(BOXES)):
            for pairs in (tuple(flying), list(flying)):
                for asked in (tuple(reads), list(reads)):
                    told = all_had(asked, boxes, pairs)
                    self.assertEqual(told, answer)
                    self.assertIs(type(told), type(answer))

    def test_no_boxes(self):
        self.asked((), [], ())
        self.asked((), [(3, None)], ())

    def test_several(self):
        self.asked((1, 2), [], (11, 12))
        self.asked((2, 1, 2), [(2, 5)], (5, 11, 5))
        self.asked((0, 0), [(2, None)], (0, 0))

    def test_one_cannot_be_had(self):
        self.asked((1, 2), [(1, None)], None)
        self.asked((1, 2), [(2, None)], None)
        self.asked((1, 2), [(2, None), (1, 5)], None)
        self.asked((1, 2), [(3, None)], (11, 12))

    def test_words_behind_all_rows(self):
        for seed in range(300):
            chance = random.Random(seed)
            boxes = [0] + [chance.randrange(65536) for _ in range(7)]
            flying = [(chance.choice((None, 1, 2, 3, 4, 5, 6, 7)), chance.randrange(65536))
                      for _ in range(chance.randrange(6))]
            behind = list(boxes)
            for box, word in reversed(flying):
                if box is not None:
                    behind[box] = word
            self.assertEqual(all_had(range(8), boxes, flying), tuple(behind))
            for box in range(8):
                self.assertEqual(had(box, boxes, flying), (True, behind[box]))


if __name__ == "__main__":
    unittest.main()
