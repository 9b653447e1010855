import unittest

from upanddowns import errors

NAMES = ("NoOrder NoNumber NoRow NotUpDown NoPattern NoTree NoLoose NoRing NoFraction NoText"
         " NoDeed NoLine").split()


class ErrorsTest(unittest.TestCase):
    def test_point_3_the_one_above_all_is_a_value_error(self):
        self.assertEqual(errors.TurnError.__bases__, (ValueError,))

    def test_point_3_each_refusal_stands_straight_under_it(self):
        for name in NAMES:
            refusal = getattr(errors, name)
            self.assertEqual(refusal.__bases__, (errors.TurnError,))
            self.assertEqual((refusal.__name__, refusal.__module__), (name, "upanddowns.errors"))

    def test_a_refusal_is_caught_by_its_own_name_and_by_the_common_one(self):
        for name in NAMES:
            refusal = getattr(errors, name)
            for caught in (refusal, errors.TurnError, ValueError):
                with self.assertRaises(caught):
                    raise refusal("why")


if __name__ == "__main__":
    unittest.main()
