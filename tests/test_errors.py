"""Tests of prepaidplans.errors: [4] and the interface's row for this file."""

import unittest

from prepaidplans import errors

WITHOUT_FIELDS = """InvalidFraction InvalidRow InvalidTick InvalidName InvalidTask InvalidPath InvalidCourse
InvalidWeights InvalidKind InvalidArrows InvalidChains InvalidShare InvalidNames InvalidNumber InvalidBeginning
InvalidWord InvalidEnd NothingRuns NothingToUndo NotSafe""".split()

FIELDS = {
    "InvalidTasks": "name", "InvalidPlan": "path", "TooLarge": "number", "InvalidText": "index",
    "InvalidLine": "line", "InvalidFates": "path", "InvalidParts": "index", "NotRisky": "index",
    "NeverDone": "index", "TooMany": "limit", "Overdue": "path",
}

NAMES = [*WITHOUT_FIELDS, *FIELDS]


class ErrorsTest(unittest.TestCase):
    def test_the_row_of_the_interface_is_all_there(self):
        found = [name for name, value in vars(errors).items() if isinstance(value, type)]
        self.assertEqual(sorted(found), sorted(["PlanError", *NAMES]))
        for name in found:
            self.assertEqual(getattr(errors, name).__module__, "prepaidplans.errors")

    def test_plan_error_is_a_value_error_and_takes_one_string(self):
        self.assertEqual(errors.PlanError.__bases__, (ValueError,))
        self.assertEqual(str(errors.PlanError("why")), "why")

    def test_each_error_is_a_plan_error_and_of_no_other_class(self):
        for name in NAMES:
            one = getattr(errors, name)
            with self.subTest(name):
                self.assertEqual(one.__bases__, (errors.PlanError,))
                error = one("a")
                self.assertIsInstance(error, errors.PlanError)
                self.assertIsInstance(error, ValueError)
                kin = [other for other in NAMES if isinstance(error, getattr(errors, other))]
                self.assertEqual(kin, [name])

    def test_errors_without_fields_take_one_string(self):
        for name in WITHOUT_FIELDS:
            with self.subTest(name):
                error = getattr(errors, name)("what went wrong")
                self.assertEqual(str(error), "what went wrong")
                self.assertEqual(vars(error), {})

    def test_fields_by_position_and_by_name(self):
        for name, field in FIELDS.items():
            for value in (None, 0, 7, 10 ** 59, "a", (), (1, 0, 2)):
                with self.subTest(name, value=value):
                    one = getattr(errors, name)
                    self.assertEqual(vars(one(value)), {field: value})
                    self.assertEqual(vars(one(**{field: value})), {field: value})

    def test_fields_stay_when_raised(self):
        for name, field in FIELDS.items():
            with self.subTest(name), self.assertRaises(errors.PlanError) as caught:
                raise getattr(errors, name)((2, 1))
            self.assertEqual(getattr(caught.exception, field), (2, 1))

    def test_each_error_can_be_shown(self):
        for name in NAMES:
            self.assertIsInstance(str(getattr(errors, name)("a")), str)


if __name__ == "__main__":
    unittest.main()
