import unittest

from eachsome import bounds, errors

BOUNDS = {
    "MAX_LETTERS": 60, "MAX_CLAUSES": 200, "MAX_SEARCH": 12, "MAX_STEPS": 600000, "MAX_NODES": 400,
    "MAX_NEST": 40, "MAX_BITS": 4, "MAX_ROUNDS": 4, "MAX_EDITS": 40,
}
PLAIN = ("Unfit", "BadText", "TooManyEdits", "NothingToUndo", "NothingToRedo")
WITH_FIELD = (("Taken", "given"), ("TooMany", "limit"), ("NoVersion", "given"), ("BadLog", "place"))


class BoundsTest(unittest.TestCase):
    def test_each_bound(self):
        for name, number in BOUNDS.items():
            with self.subTest(name=name):
                self.assertIs(type(getattr(bounds, name)), int)
                self.assertEqual(getattr(bounds, name), number)


class ErrorsTest(unittest.TestCase):
    def test_the_family(self):
        self.assertEqual(errors.GameError.__bases__, (ValueError,))
        for name in PLAIN + tuple([name for name, _ in WITH_FIELD]):
            with self.subTest(name=name):
                self.assertEqual(getattr(errors, name).__bases__, (errors.GameError,))
                self.assertEqual(getattr(errors, name).__module__, "eachsome.errors")

    def test_without_arguments(self):
        for name in PLAIN:
            with self.subTest(name=name):
                made = getattr(errors, name)()
                self.assertIsInstance(made, ValueError)
                self.assertEqual(vars(made), {})

    def test_fields_are_kept_as_passed(self):
        values = (None, True, False, 0, 7, 10 ** 399, "", "x", "a" * 20000, [1, [2]], {"a": 1}, (1, (2,)), (), ((),))
        for name, field in WITH_FIELD:
            for value in values:
                with self.subTest(name=name, value=repr(value)[:40]):
                    for made in (getattr(errors, name)(value), getattr(errors, name)(**{field: value})):
                        self.assertIs(getattr(made, field), value)
                        self.assertEqual(vars(made), {field: value})
                        self.assertIsInstance(str(made), str)
                        self.assertIsInstance(repr(made), str)

    def test_they_are_raised_and_caught(self):
        with self.assertRaises(ValueError) as caught:
            raise errors.BadLog(3)
        self.assertEqual(caught.exception.place, 3)

    def test_one_argument_and_no_other_number(self):
        for name, _ in WITH_FIELD:
            with self.subTest(name=name):
                with self.assertRaises(TypeError):
                    getattr(errors, name)()
                with self.assertRaises(TypeError):
                    getattr(errors, name)(1, 2)


if __name__ == "__main__":
    unittest.main()
