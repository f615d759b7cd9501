"""Z1: the error classes, their places in the tree and their fields."""

import unittest

from nearnought import errors
from nearnought.errors import AmountError

FIELDS = {
    "BadBatch": None,
    "BadLoad": "error",
    "BadRow": "given",
    "BadText": "line",
    "Busy": None,
    "NoJobs": None,
    "NoNumber": "number",
    "NoRow": "given",
    "NothingToUndo": None,
    "NotTwo": "machines",
    "NoVersion": "given",
    "Rejected": "index",
    "TooGreat": "index",
    "TooMany": "limit",
    "TooManyEdits": None,
    "Uneven": None,
    "Unfit": None,
}


def values():
    """Values of several kinds, made anew, so that they can be told apart."""
    deep = ()
    for _ in range(20):
        deep = (deep,)
    return [
        None, True, False, 0, 1, -7, 10 ** 399, "", "kinds", "a\nb",
        (), (None, "load"), (3, "row"), [], [1, [2]], {}, {"a": (1,), 2: None},
        deep, object(), ValueError("x"), len,
    ]


def made():
    """Each error class with one object of it."""
    found = []
    for name, field in FIELDS.items():
        cls = getattr(errors, name)
        found.append((cls, cls() if field is None else cls(0)))
    return found


class Tree(unittest.TestCase):
    def test_amount_error_is_directly_under_value_error(self):
        self.assertEqual(AmountError.__bases__, (ValueError,))

    def test_each_class_is_directly_under_amount_error(self):
        for name in FIELDS:
            with self.subTest(name):
                cls = getattr(errors, name)
                self.assertEqual(cls.__name__, name)
                self.assertEqual(cls.__module__, "nearnought.errors")
                self.assertEqual(cls.__bases__, (AmountError,))

    def test_each_error_is_one_of_its_own_class_only(self):
        for cls, error in made():
            self.assertIsInstance(error, AmountError)
            self.assertIsInstance(error, ValueError)
            for name in FIELDS:
                with self.subTest(f"{cls.__name__} and {name}"):
                    other = getattr(errors, name)
                    self.assertEqual(isinstance(error, other), other is cls)

    def test_each_error_is_raised_and_caught(self):
        for cls, error in made():
            for caught in (cls, AmountError, ValueError):
                with self.subTest(f"{cls.__name__} as {caught.__name__}"):
                    with self.assertRaises(caught) as context:
                        raise error
                    self.assertIs(context.exception, error)


class Fields(unittest.TestCase):
    def test_made_by_place(self):
        for name, field in FIELDS.items():
            for value in values() if field else []:
                with self.subTest(f"{name} {value!r}"):
                    error = getattr(errors, name)(value)
                    self.assertIs(getattr(error, field), value)

    def test_made_by_name(self):
        for name, field in FIELDS.items():
            for value in values() if field else []:
                with self.subTest(f"{name} {value!r}"):
                    error = getattr(errors, name)(**{field: value})
                    self.assertIs(getattr(error, field), value)

    def test_the_field_stands_where_the_error_is_caught(self):
        for name, field in FIELDS.items():
            for value in values() if field else []:
                with self.subTest(f"{name} {value!r}"):
                    with self.assertRaises(AmountError) as context:
                        raise getattr(errors, name)(value)
                    self.assertIs(getattr(context.exception, field), value)

    def test_what_is_passed_stays_as_it_was(self):
        for name, field in FIELDS.items():
            for value in [[3, [1]], {"b": [1], "a": 2}] if field else []:
                with self.subTest(f"{name} {value!r}"):
                    before = repr(value)
                    getattr(errors, name)(value)
                    getattr(errors, name)(**{field: value})
                    self.assertEqual(repr(value), before)

    def test_two_errors_have_each_its_own_field(self):
        for name, field in FIELDS.items():
            if field:
                with self.subTest(name):
                    one, other = getattr(errors, name)(1), getattr(errors, name)(2)
                    self.assertEqual(getattr(one, field), 1)
                    self.assertEqual(getattr(other, field), 2)

    def test_the_others_are_made_without_arguments(self):
        for name, field in FIELDS.items():
            if field is None:
                with self.subTest(name):
                    self.assertIs(type(getattr(errors, name)()), getattr(errors, name))


if __name__ == "__main__":
    unittest.main()
