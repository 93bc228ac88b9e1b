import unittest

from mustread import errors

NAMES = ["BadExpression", "BadContract", "BadProgram", "BadChange", "BadName", "BadChoice",
         "BadTree", "TooLarge", "NothingRead", "BadText"]


class ErrorsTest(unittest.TestCase):
    def test_each_is_a_direct_subclass_of_must_error(self):
        for name in NAMES:
            self.assertEqual(getattr(errors, name).__bases__, (errors.MustError,), name)

    def test_must_error_is_a_value_error(self):
        self.assertEqual(errors.MustError.__bases__, (ValueError,))

    def test_there_is_no_other_error(self):
        self.assertEqual(sorted(one.__name__ for one in errors.MustError.__subclasses__()), sorted(NAMES))

    def test_all_stand_in_this_file(self):
        for name in NAMES + ["MustError"]:
            self.assertEqual(getattr(errors, name).__module__, "mustread.errors")

    def test_attributes_are_set_when_the_object_is_created(self):
        self.assertIsNone(errors.BadProgram("why").part)
        self.assertEqual(errors.BadProgram("why", "f").part, "f")
        self.assertEqual(errors.BadText("why").row, 0)
        self.assertEqual(errors.BadText("why", 3).row, 3)
        self.assertEqual(str(errors.BadProgram("why", "f")), "why")
        self.assertEqual(str(errors.BadText("why", 3)), "why")


if __name__ == "__main__":
    unittest.main()
