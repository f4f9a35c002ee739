import unittest

from tests.row_checks import check_row
from rowmill.jumps import Go, Jump, Link, Zero

PLACES = (0, 1, 40, 63)
GOALS = (0, 1, 63, 64, 1023)


class Each(unittest.TestCase):
    def test_jump(self):
        for place in PLACES:
            for n in GOALS:
                check_row(self, Jump(n), {"n": n}, (), place, told=("jump", n), goal=n)

    def test_zero_where_its_box_holds_nought(self):
        for place in PLACES:
            for n in GOALS:
                check_row(self, Zero(4, n), {"a": 4, "n": n}, (0,), place,
                          told=("zero", 4, n), reads=(4,), goal=n)

    def test_zero_where_its_box_holds_something(self):
        for place in PLACES:
            for word in (1, 2, 32768, 65535):
                check_row(self, Zero(4, 30), {"a": 4, "n": 30}, (word,), place,
                          told=("zero", 4, 30), reads=(4,), goal=place + 1)

    def test_link(self):
        for place in PLACES:
            for n in GOALS:
                check_row(self, Link(6, n), {"a": 6, "n": n}, (), place,
                          told=("link", 6, n), gives=6, known="reckon", reckoned=place + 1, goal=n)

    def test_go(self):
        for place in PLACES:
            for word in (0, 1, 63, 64, 1024, 65535):
                check_row(self, Go(2), {"a": 2}, (word,), place, told=("go", 2), reads=(2,), goal=word)


class BoxNought(unittest.TestCase):
    def test_link_to_box_nought_still_goes(self):
        check_row(self, Link(0, 9), {"a": 0, "n": 9}, (), 3,
                  told=("link", 0, 9), reckoned=4, goal=9)

    def test_zero_and_go_of_box_nought(self):
        check_row(self, Zero(0, 9), {"a": 0, "n": 9}, (0,), 3, told=("zero", 0, 9), reads=(0,), goal=9)
        check_row(self, Go(0), {"a": 0}, (0,), 3, told=("go", 0), reads=(0,), goal=0)

    def test_each_box_of_link(self):
        self.assertEqual([Link(box, 1).gives() for box in range(8)], [None, 1, 2, 3, 4, 5, 6, 7])
        self.assertEqual([Link(box, 1).known() for box in range(8)], [None] + ["reckon"] * 7)

    def test_zero_and_go_give_to_none(self):
        for box in range(8):
            for row in (Zero(box, 1), Go(box)):
                self.assertIsNone(row.gives())
                self.assertIsNone(row.known())


class Words(unittest.TestCase):
    def test_link_gives_a_word(self):
        self.assertEqual(Link(1, 2).reckoned((), 65534), 65535)
        self.assertEqual(Link(1, 2).reckoned([], 65535), 0)


if __name__ == "__main__":
    unittest.main()
