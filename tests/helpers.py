"""What several test files need."""

import itertools
import unittest

BUILT_IN = {"UnknownWord": KeyError, "DuplicateWord": KeyError, "NothingToUndo": LookupError,
            "NothingToRedo": LookupError, "OutOfRange": IndexError, "TooLarge": ArithmeticError}

# Values of all kinds, none of which is a word over "ab", a sequence of words, a mark or a row.
ODD_VALUES = (0, 1, -1, 7, 10 ** 61 - 1, "A", "c", "a b", "a\n", "ab ", "1", {}, {"a": 1}, {1: [None, (True, "b")]},
              [0], ["c"], [["a"]], [None, 1], (5,), ((),), ((1, 2), [3]))

# Values that are no letters.
NO_LETTERS = ("", "ba", "aa", "aba", "abcde", "A", "Ab", "aB", "1", "a1", " ", "a b", "ab ", "ab\n", "-", "\xe4",
              "a\xdf", None, True, False, 0, 1, 10 ** 60, [], ["a"], ["a", "b"], (), ("a", "b"), {}, {"a": "b"},
              [[1], {}])

# What cannot stand in the place of the sequence of two rows over "ab", or of their marks.
NO_SEQUENCES = (None, True, False, 0, 1, "", "a", "ab", {}, {0: 1}, {0: (0, 0), 1: (0, 0)})

# What cannot stand in such rows, in the place of such a row, and in the place of a mark.
NO_TARGETS = (2, 3, -1, 10 ** 60, True, False, "", "0", "a", "-", (), [], (0,), [1], {}, {0: 0})
NO_ROWS = (None, True, False, 0, 1, "", "ab", "00", {}, {0: 0, 1: 1}, (), [], (0,), [0], (None,), (0, 0, 0),
           [0, 0, None])
NO_MARKS = (0, 1, 2, -1, "", "+", "True", "None", (), [], (True,), [None], {}, {True: True})


def all_words(letters, length):
    """All words of at most this length, in word order."""
    return ["".join(row) for many in range(length + 1) for row in itertools.product(letters, repeat=many)]


class ErrorCase(unittest.TestCase):
    def assert_error(self, expected, call, *values, **named):
        """The call raises an error of just this class, with this very value in its field."""
        with self.assertRaises(type(expected)) as caught:
            call(*values, **named)
        error = caught.exception
        self.assertIs(type(error), type(expected))
        self.assertEqual(type(error).__bases__, (BUILT_IN.get(type(error).__name__, ValueError),))
        # 1 and True are equal, but they are written differently.
        self.assertEqual(repr(vars(error)), repr(vars(expected)))
