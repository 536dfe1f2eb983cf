import unittest

from quotehall.errors import HallError, NoName, TooGreat, WrongKind, WrongLevel

REFUSALS = (NoName, WrongLevel, WrongKind, TooGreat)


class ErrorsTest(unittest.TestCase):
    def test_a_refusal_is_a_value_error(self):
        self.assertTrue(issubclass(HallError, ValueError))

    def test_each_refusal_is_a_hall_error_and_a_value_error(self):
        for refusal in REFUSALS:
            with self.subTest(refusal=refusal.__name__):
                self.assertIsNot(refusal, HallError)
                self.assertIsInstance(refusal("why"), HallError)
                self.assertIsInstance(refusal("why"), ValueError)

    def test_none_of_the_refusals_is_below_another(self):
        for one in REFUSALS:
            for other in REFUSALS:
                if one is not other:
                    self.assertFalse(issubclass(one, other), (one, other))

    def test_each_refusal_is_caught_by_its_own_name_alone(self):
        for one in REFUSALS:
            for other in REFUSALS:
                if one is not other:
                    with self.assertRaises(one):
                        try:
                            raise one("why")
                        except other:
                            self.fail("caught by another name")

    def test_each_stands_in_errors_itself(self):
        for error in (HallError, *REFUSALS):
            self.assertEqual(error.__module__, "quotehall.errors")


if __name__ == "__main__":
    unittest.main()
