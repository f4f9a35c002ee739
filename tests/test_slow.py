import unittest

from rowmill.errors import NoLine
from rowmill.slow import Slow

NO_NUMBERS = (True, False, None, "0", "", "a", 1.0, (), [], [0], {})


class Lines(unittest.TestCase):
    def test_told(self):
        slow = Slow(list(range(12)))
        for k in range(3):
            four = slow.four(k)
            self.assertEqual(four, (4 * k, 4 * k + 1, 4 * k + 2, 4 * k + 3))
            self.assertIs(type(four), tuple)

    def test_put(self):
        for words in ((90, 91, 92, 93), [90, 91, 92, 93]):
            slow = Slow(range(12))
            self.assertIsNone(slow.put_four(1, words))
            self.assertEqual(slow.whole(), [0, 1, 2, 3, 90, 91, 92, 93, 8, 9, 10, 11])
            self.assertEqual(slow.four(1), (90, 91, 92, 93))
            slow.put_four(0, words)
            slow.put_four(2, words)
            self.assertEqual(slow.whole(), [90, 91, 92, 93] * 3)

    def test_sizes(self):
        for many in (4, 8, 60, 64):
            for words in ([7] * many, (7,) * many):
                slow = Slow(words)
                self.assertEqual((slow.size(), slow.whole()), (many, [7] * many))
                self.assertIs(type(slow.whole()), list)
                self.assertEqual(slow.four(many // 4 - 1), (7, 7, 7, 7))

    def test_counts(self):
        slow = Slow([0] * 8)
        self.assertEqual((slow.reads(), slow.writes()), (0, 0))
        slow.four(0)
        slow.four(0)
        slow.put_four(1, (1, 2, 3, 4))
        self.assertEqual((slow.reads(), slow.writes()), (2, 1))
        slow.whole()
        slow.size()
        slow.put_four(1, (1, 2, 3, 4))
        slow.four(1)
        self.assertEqual((slow.reads(), slow.writes()), (3, 2))


class Refused(unittest.TestCase):
    def test_what_is_no_line(self):
        for many in (4, 8, 64):
            slow = Slow(list(range(many)))
            for wrong in (-1, -many // 4, many // 4, many, 10 ** 30, -10 ** 30) + NO_NUMBERS:
                with self.subTest(many=many, k=wrong):
                    with self.assertRaises(NoLine):
                        slow.four(wrong)
                    with self.assertRaises(NoLine):
                        slow.put_four(wrong, (9, 9, 9, 9))
            self.assertEqual(slow.whole(), list(range(many)))
            self.assertEqual((slow.reads(), slow.writes()), (0, 0))


class Own(unittest.TestCase):
    def test_what_is_handed_in_may_be_changed(self):
        words, four = [1, 2, 3, 4], [5, 6, 7, 8]
        slow = Slow(words)
        words[0] = 9
        words.append(9)
        self.assertEqual(slow.whole(), [1, 2, 3, 4])
        slow.put_four(0, four)
        self.assertEqual(words, [9, 2, 3, 4, 9])
        four[0] = 9
        self.assertEqual(slow.whole(), [5, 6, 7, 8])

    def test_what_is_told_is_the_askers(self):
        slow = Slow([1, 2, 3, 4])
        whole, four = slow.whole(), slow.four(0)
        slow.put_four(0, (5, 6, 7, 8))
        self.assertEqual((whole, four), ([1, 2, 3, 4], (1, 2, 3, 4)))
        slow.whole()[0] = 9
        self.assertEqual(slow.whole(), [5, 6, 7, 8])


if __name__ == "__main__":
    unittest.main()
