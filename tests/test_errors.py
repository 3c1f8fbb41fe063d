import unittest

from leapfit import errors

VALUE = ["InvalidRule", "InvalidNumber", "InvalidRate", "InvalidCounts", "InvalidWitness", "TooMany",
         "IndexOutOfRange", "NotFitting", "NotPossible", "DuplicateMoment", "UnknownMoment", "UnknownName"]
INDEX = ["InvalidRecord", "InvalidPrice"]
LINE = ["ParseError", "CommandError"]
PLAIN = ["NoRule", "Fitting", "Unbounded", "NoEvents"]


class ErrorsTest(unittest.TestCase):
    def test_base_classes(self):
        self.assertEqual(errors.LeapfitError.__bases__, (ValueError,))
        for name in VALUE + INDEX + LINE + PLAIN:
            with self.subTest(name=name):
                self.assertEqual(getattr(errors, name).__bases__, (errors.LeapfitError,))

    def test_there_are_these_classes_and_no_others(self):
        defined = [name for name, thing in vars(errors).items() if isinstance(thing, type)]
        self.assertEqual(sorted(defined), sorted(VALUE + INDEX + LINE + PLAIN + ["LeapfitError"]))
        self.assertEqual(len(VALUE + INDEX + LINE + PLAIN), 20)

    def test_attributes(self):
        for attribute, names in (("value", VALUE), ("index", INDEX), ("line", LINE)):
            for name in names:
                for content in (None, True, 0, -1, "a line", [1, [2]], (1, 2), {"a": []}, 10 ** 6000):
                    with self.subTest(name=name):
                        error = getattr(errors, name)(content)
                        self.assertIs(getattr(error, attribute), content)
                        self.assertEqual(list(vars(error)), [attribute])

    def test_without_attributes(self):
        for name in PLAIN:
            with self.subTest(name=name):
                self.assertEqual(vars(getattr(errors, name)()), {})

    def test_every_error_has_a_message(self):
        for name in VALUE + INDEX + LINE:
            self.assertIsInstance(str(getattr(errors, name)(10 ** 6000)), str)

    def test_caught_as_value_error(self):
        for name in PLAIN:
            with self.assertRaises(ValueError):
                raise getattr(errors, name)()


if __name__ == "__main__":
    unittest.main()
