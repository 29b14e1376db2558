"""Point [3] and the interface's section wordfit/errors.py."""

import inspect
import unittest

from wordfit import errors

# Each error class with the built-in class and the field that the interface names.
INTERFACE = {
    "InvalidLetters": (ValueError, None),
    "InvalidWord": (ValueError, "word"),
    "InvalidSample": (ValueError, "word"),
    "InvalidMachine": (ValueError, "state"),
    "InvalidPoints": (ValueError, "point"),
    "NotComplete": (ValueError, "state"),
    "NotFit": (ValueError, None),
    "NotReduced": (ValueError, "state"),
    "NotApart": (ValueError, "word"),
    "NotVersion": (ValueError, None),
    "InvalidText": (ValueError, "line"),
    "InvalidCommand": (ValueError, "command"),
    "UnknownWord": (KeyError, "word"),
    "DuplicateWord": (KeyError, "word"),
    "NothingToUndo": (LookupError, None),
    "NothingToRedo": (LookupError, None),
    "OutOfRange": (IndexError, "number"),
    "TooLarge": (ArithmeticError, "limit"),
}
BASES = (ValueError, KeyError, LookupError, IndexError, ArithmeticError)
VALUES = (
    0, 7, -(10 ** 61), True, False, "", "ab", "no word", None, (), (1, ("a", None)),
    [], [1, [True, "b"]], {}, {"a": [1, (None, {})]},
)


def made(name, value=None):
    """The error of this class with the value in its field, if it has one."""
    cls = getattr(errors, name)
    return cls() if INTERFACE[name][1] is None else cls(value)


def with_fields():
    return [(name, field) for name, (_, field) in INTERFACE.items() if field is not None]


def is_caught(error, base):
    try:
        raise error
    except base:
        return True
    except Exception:
        return False


class ErrorsTest(unittest.TestCase):
    def test_all_classes_of_the_interface_are_defined_here(self):
        self.assertEqual(len(INTERFACE), 18)
        for name in INTERFACE:
            with self.subTest(error=name):
                cls = getattr(errors, name)
                self.assertIsInstance(cls, type)
                self.assertEqual((cls.__module__, cls.__name__), (errors.__name__, name))

    def test_the_direct_base_class(self):
        for name, (base, _) in INTERFACE.items():
            with self.subTest(error=name):
                self.assertEqual(getattr(errors, name).__bases__, (base,))

    def test_caught_as_its_base_class_and_as_no_other(self):
        for name, (base, _) in INTERFACE.items():
            for other in BASES:
                with self.subTest(error=name, other=other):
                    self.assertEqual(is_caught(made(name), other), issubclass(base, other))

    def test_caught_as_its_own_class_and_as_no_other(self):
        for name in INTERFACE:
            for other in INTERFACE:
                with self.subTest(error=name, other=other):
                    self.assertEqual(is_caught(made(name), getattr(errors, other)), name == other)

    def test_created_by_position(self):
        for name, field in with_fields():
            for value in VALUES:
                with self.subTest(error=name, value=value):
                    self.assertIs(getattr(getattr(errors, name)(value), field), value)

    def test_created_by_name(self):
        for name, field in with_fields():
            for value in VALUES:
                with self.subTest(error=name, value=value):
                    self.assertIs(getattr(getattr(errors, name)(**{field: value}), field), value)

    def test_the_field_is_the_only_argument(self):
        for name, field in with_fields():
            with self.subTest(error=name):
                cls = getattr(errors, name)
                self.assertEqual(list(inspect.signature(cls).parameters), [field])
                with self.assertRaises(TypeError):
                    cls()
                with self.assertRaises(TypeError):
                    cls(wrong=1)

    def test_the_value_does_not_change(self):
        for name, field in with_fields():
            with self.subTest(error=name):
                row, table = [1, [2]], {"a": [1]}
                getattr(errors, name)(row)
                getattr(errors, name)(**{field: table})
                self.assertEqual((row, table), ([1, [2]], {"a": [1]}))

    def test_two_errors_keep_their_own_values(self):
        for name, field in with_fields():
            with self.subTest(error=name):
                first, second = made(name, "a"), made(name, "b")
                self.assertEqual((getattr(first, field), getattr(second, field)), ("a", "b"))

    def test_created_without_arguments(self):
        without = [name for name, (_, field) in INTERFACE.items() if field is None]
        self.assertEqual(without, ["InvalidLetters", "NotFit", "NotVersion", "NothingToUndo", "NothingToRedo"])
        for name in without:
            with self.subTest(error=name):
                self.assertIsInstance(getattr(errors, name)(), INTERFACE[name][0])

    def test_a_caught_error_still_has_its_field(self):
        for name, field in with_fields():
            value = [name]
            with self.subTest(error=name):
                with self.assertRaises(INTERFACE[name][0]) as caught:
                    raise getattr(errors, name)(value)
                self.assertIs(getattr(caught.exception, field), value)


if __name__ == "__main__":
    unittest.main()
