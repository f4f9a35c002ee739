import unittest

from tests.row_checks import check_row
from rowmill.others import Aim, Ask, Home, Tell, Where, Why

PLACES = (0, 1, 40, 63)
BOXES = range(1, 8)


class Each(unittest.TestCase):
    def test_ask(self):
        for place in PLACES:
            for box in BOXES:
                check_row(self, Ask(box), {"a": box}, (), place, told=("ask", box), gives=box, known="write")

    def test_tell(self):
        for place in PLACES:
            for box in range(8):
                for word in (0, 1, 65535):
                    check_row(self, Tell(box), {"a": box}, (word,), place, told=("tell", box), reads=(box,))

    def test_why(self):
        for place in PLACES:
            for box in BOXES:
                check_row(self, Why(box), {"a": box}, (), place,
                          told=("why", box), gives=box, known="write", alone=True)

    def test_where(self):
        for place in PLACES:
            for box in BOXES:
                check_row(self, Where(box), {"a": box}, (), place,
                          told=("where", box), gives=box, known="write", alone=True)

    def test_aim(self):
        for place in PLACES:
            for box in range(8):
                for word in (0, 1, 65535):
                    check_row(self, Aim(box), {"a": box}, (word,), place,
                              told=("aim", box), reads=(box,), alone=True)

    def test_home(self):
        for place in PLACES:
            check_row(self, Home(), {}, (), place, told=("home",), alone=True, goal=place + 1)


class BoxNought(unittest.TestCase):
    def test_what_is_given_to_box_nought_is_given_to_none(self):
        check_row(self, Ask(0), {"a": 0}, (), 5, told=("ask", 0))
        check_row(self, Why(0), {"a": 0}, (), 5, told=("why", 0), alone=True)
        check_row(self, Where(0), {"a": 0}, (), 5, told=("where", 0), alone=True)

    def test_tell_and_aim_give_to_none(self):
        for box in range(8):
            for row in (Tell(box), Aim(box)):
                self.assertIsNone(row.gives())
                self.assertIsNone(row.known())


if __name__ == "__main__":
    unittest.main()
