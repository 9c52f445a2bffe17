import unittest

from outcomepay import errors

NAMES = (
    "BadJob", "BadWork", "BadPay", "BadShare", "BadGroups", "BadOffers", "BadKinds", "BadWish", "BadPatience",
    "BadFired", "BadDraw", "NothingDone", "BadSteps", "BadText",
)


class Errors(unittest.TestCase):
    def test_the_base_is_a_value_error(self):
        self.assertEqual(errors.PayError.__bases__, (ValueError,))

    def test_all_are_direct_subclasses(self):
        for name in NAMES:
            self.assertEqual(getattr(errors, name).__bases__, (errors.PayError,), name)
            self.assertEqual(getattr(errors, name).__module__, "outcomepay.errors")

    def test_there_are_no_others(self):
        self.assertEqual(sorted(each.__name__ for each in errors.PayError.__subclasses__()), sorted(NAMES))

    def test_attributes(self):
        self.assertEqual([errors.BadJob("WORKS").part, errors.BadJob(None).part], ["WORKS", None])
        self.assertEqual([errors.BadSteps(3).index, errors.BadSteps(None).index], [3, None])
        self.assertEqual(errors.BadText(2).row, 2)

    def test_they_can_be_caught_as_the_base(self):
        for name in NAMES:
            with self.assertRaises(errors.PayError):
                raise getattr(errors, name)()


if __name__ == "__main__":
    unittest.main()
