"""Tests of point 1.1, and of 0.5 and 0.6 as far as they speak of errors."""

import unittest

from everyfield import errors

HUGE = 10 ** 6000

# Each error with the names of its attributes and with values for them.
ERRORS = {
    "BadNumber": (["n"], [0]),
    "BadCharacteristic": (["p"], [4]),
    "BadText": (["at"], [3]),
    "BadRow": (["at"], [1]),
    "UnlikeShapes": (["first", "second"], [(2, 3), (3, 2)]),
    "NotSquare": (["height", "width"], [2, 3]),
    "NoSolution": ([], []),
    "NoInverse": ([], []),
    "BadStep": (["at"], [7]),
    "UnknownName": (["name"], ["X"]),
    "NameTaken": (["name"], ["Y"]),
    "Contradiction": (["clash"], [[0, 2]]),
    "NothingToUndo": ([], []),
}


class TestErrors(unittest.TestCase):
    def test_all_stand_directly_below_field_error(self):
        self.assertEqual(errors.FieldError.__bases__, (ValueError,))
        for name in ERRORS:
            self.assertEqual(getattr(errors, name).__bases__, (errors.FieldError,), name)

    def test_there_are_exactly_these(self):
        found = [name for name, value in vars(errors).items()
                 if isinstance(value, type) and issubclass(value, errors.FieldError)]
        self.assertEqual(sorted(found), sorted([*ERRORS, "FieldError"]))

    def test_arguments_are_kept_as_attributes(self):
        for name, (attributes, values) in ERRORS.items():
            error = getattr(errors, name)(*values)
            self.assertEqual(vars(error), dict(zip(attributes, values)), name)

    def test_arguments_are_needed(self):
        for name, (_, values) in ERRORS.items():
            with self.assertRaises(TypeError, msg=name):
                getattr(errors, name)(*values, 1)
            if values:
                with self.assertRaises(TypeError, msg=name):
                    getattr(errors, name)(*values[1:])

    def test_each_has_a_message(self):
        for name, (_, values) in ERRORS.items():
            self.assertTrue(str(getattr(errors, name)(*values)), name)

    def test_a_number_of_any_size_does_not_spoil_the_message(self):
        for error in [errors.BadNumber(-HUGE), errors.BadCharacteristic(-HUGE)]:
            self.assertTrue(str(error))
            self.assertTrue(repr(error))
        self.assertEqual(errors.BadNumber(-HUGE).n, -HUGE)
        self.assertEqual(errors.BadCharacteristic(-HUGE).p, -HUGE)

    def test_the_shape_may_be_beside_a_length(self):
        error = errors.UnlikeShapes((2, 3), 4)
        self.assertEqual((error.first, error.second), ((2, 3), 4))

    def test_contradiction_keeps_a_copy(self):
        clash = [0, 1]
        error = errors.Contradiction(clash)
        clash.append(2)
        self.assertEqual(error.clash, [0, 1])
        error.clash.append(3)
        self.assertEqual(clash, [0, 1, 2])
        self.assertEqual(errors.Contradiction([]).clash, [])


if __name__ == "__main__":
    unittest.main()
