import unittest

from pairskept import errors

PLAIN = ["BadDesign", "BadCore", "BadPlace", "BadName", "BadPlaces", "NotMade", "NotText", "NotNow", "NothingToUndo"]
WITH_FIELD = {"BadProgram": "core", "BadRow": "index", "InvalidText": "line"}


class Errors(unittest.TestCase):
    def test_base(self):
        self.assertEqual(errors.PairError.__bases__, (ValueError,))

    def test_direct_subclasses(self):
        for name in PLAIN + list(WITH_FIELD):
            with self.subTest(name):
                self.assertEqual(getattr(errors, name).__bases__, (errors.PairError,))

    def test_no_other_error(self):
        names = [name for name, value in vars(errors).items() if isinstance(value, type)]
        self.assertEqual(sorted(names), sorted(PLAIN + list(WITH_FIELD) + ["PairError"]))

    def test_fields(self):
        for name, field in WITH_FIELD.items():
            for value in (0, 1, 7):
                with self.subTest(name, value=value):
                    made = getattr(errors, name)
                    self.assertEqual(vars(made(value)), {field: value})
                    self.assertEqual(vars(made(**{field: value})), {field: value})

    def test_fields_may_be_none(self):
        self.assertIsNone(errors.BadProgram(None).core)
        self.assertIsNone(errors.BadRow(None).index)

    def test_without_fields(self):
        for name in PLAIN:
            with self.subTest(name):
                self.assertEqual(vars(getattr(errors, name)()), {})

    def test_caught_by_base(self):
        for name in PLAIN:
            with self.subTest(name), self.assertRaises(errors.PairError):
                raise getattr(errors, name)("why")
        for name in WITH_FIELD:
            with self.subTest(name), self.assertRaises(errors.PairError):
                raise getattr(errors, name)(1)


if __name__ == "__main__":
    unittest.main()
