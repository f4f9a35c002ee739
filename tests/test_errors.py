import unittest

from rowmill import errors

OF_TEXT = (
    "NoProgram", "NoMemory", "NoInputs", "NoStep", "NoCall", "Shut", "NoLine", "NoSets",
    "NoPlace", "NoSize", "BadRow", "NoMill", "NoName", "NoWord",
)
OF_NUMBER = ("NoText", "NoLog")
REFUSALS = [getattr(errors, name) for name in OF_TEXT + OF_NUMBER]


class Kinds(unittest.TestCase):
    def test_mill_error_is_a_value_error(self):
        self.assertEqual(errors.MillError.__bases__, (ValueError,))

    def test_each_refusal_is_straight_under_mill_error(self):
        self.assertEqual(len(REFUSALS), 16)
        for refusal in REFUSALS:
            with self.subTest(refusal.__name__):
                self.assertEqual(refusal.__bases__, (errors.MillError,))
                self.assertTrue(issubclass(refusal, ValueError))

    def test_no_refusal_is_under_another(self):
        for refusal in REFUSALS:
            under = [other for other in REFUSALS if issubclass(refusal, other)]
            self.assertEqual(under, [refusal])

    def test_there_is_no_other_refusal(self):
        found = [
            thing for thing in vars(errors).values()
            if isinstance(thing, type) and issubclass(thing, errors.MillError)
        ]
        self.assertEqual(set(found), set(REFUSALS) | {errors.MillError})


class Made(unittest.TestCase):
    def test_of_a_text(self):
        for name in OF_TEXT:
            refusal = getattr(errors, name)
            with self.subTest(name):
                with self.assertRaises(errors.MillError) as taken:
                    raise refusal("so it is")
                self.assertIs(type(taken.exception), refusal)
                self.assertEqual(str(taken.exception), "so it is")

    def test_of_a_number(self):
        for name in OF_NUMBER:
            refusal = getattr(errors, name)
            for at in (0, 1, 63, 10 ** 30):
                with self.subTest(name, at=at):
                    with self.assertRaises(ValueError) as taken:
                        raise refusal(at)
                    self.assertIs(type(taken.exception), refusal)
                    self.assertEqual(taken.exception.at, at)

    def test_each_has_its_own_number(self):
        first = errors.NoText(3)
        errors.NoText(4)
        self.assertEqual(first.at, 3)


if __name__ == "__main__":
    unittest.main()
