"""What several test files need."""

import itertools
import unittest

from wordfit.points import Points

BUILT_IN = {"UnknownWord": KeyError, "DuplicateWord": KeyError, "NothingToUndo": LookupError,
            "NothingToRedo": LookupError, "OutOfRange": IndexError, "TooLarge": ArithmeticError}

# Values of all kinds, none of which is a word over "ab", a sequence of words, a mark or a row.
ODD_VALUES = (0, 1, -1, 7, 10 ** 61 - 1, "A", "c", "a b", "a\n", "ab ", "1", {}, {"a": 1}, {1: [None, (True, "b")]},
              [0], ["c"], [["a"]], [None, 1], (5,), ((),), ((1, 2), [3]))

# Values that are no letters.
NO_LETTERS = ("", "ba", "aa", "aba", "abcde", "A", "Ab", "aB", "1", "a1", " ", "a b", "ab ", "ab\n", "-", "\xe4",
              "a\xdf", None, True, False, 0, 1, 10 ** 60, [], ["a"], ["a", "b"], (), ("a", "b"), {}, {"a": "b"},
              [[1], {}])

# What cannot stand in the place of the sequence of two rows over "ab", or of their marks.
NO_SEQUENCES = (None, True, False, 0, 1, "", "a", "ab", {}, {0: 1}, {0: (0, 0), 1: (0, 0)})

# What cannot stand in such rows, in the place of such a row, and in the place of a mark.
NO_TARGETS = (2, 3, -1, 10 ** 60, True, False, "", "0", "a", "-", (), [], (0,), [1], {}, {0: 0})
NO_ROWS = (None, True, False, 0, 1, "", "ab", "00", {}, {0: 0, 1: 1}, (), [], (0,), [0], (None,), (0, 0, 0),
           [0, 0, None])
NO_MARKS = (0, 1, 2, -1, "", "+", "True", "None", (), [], (True,), [None], {}, {True: True})

# What is no size of the machines that are looked for.
NO_SIZES = (0, -1, -10 ** 60, True, False, "2", "", None, (), [1], (2,), {}, {1: 2})


def all_words(letters, length):
    """All words of at most this length, in word order."""
    return ["".join(row) for many in range(length + 1) for row in itertools.product(letters, repeat=many)]


def rings(many, letters="a"):
    """So many points without marks, in a ring by each letter."""
    return Points(letters, [[(at + 1) % many] * len(letters) for at in range(many)], [None] * many)


def random_points(chance, letters, many):
    """So many points; the random source is passed."""
    nexts = [[chance.choice((None, *range(many))) for _ in letters] for _ in range(many)]
    return Points(letters, nexts, [chance.choice((None, True, False)) for _ in range(many)])


class ErrorCase(unittest.TestCase):
    def assert_error(self, expected, call, *values, **named):
        """The call raises an error of just this class, with this very value in its field."""
        with self.assertRaises(type(expected)) as caught:
            call(*values, **named)
        error = caught.exception
        self.assertIs(type(error), type(expected))
        self.assertEqual(type(error).__bases__, (BUILT_IN.get(type(error).__name__, ValueError),))
        # 1 and True are equal, but they are written differently.
        self.assertEqual(repr(vars(error)), repr(vars(expected)))


class NaiveWalk:
    """The walk of point [14] over points, for a table of transitions, with the words of the couples."""

    def __init__(self, rows, over):
        self.couples, self.words, self.needed, self.stopped = [(0, 0)], [""], [], None
        for state, point in self.couples:
            word = self.words[self.couples.index((state, point))]
            for letter, following in enumerate(over.nexts[point]):
                if following is None:
                    continue
                if rows[state][letter] is None:
                    self.stopped = (state, letter)
                    return
                if (state, letter) not in self.needed:
                    self.needed.append((state, letter))
                if (rows[state][letter], following) not in self.couples:
                    self.couples.append((rows[state][letter], following))
                    self.words.append(word + over.letters[letter])

    def marks(self, over, state):
        """The marks of the points with which a state is coupled."""
        return {over.marks[point] for found, point in self.couples if found == state} - {None}

    def clashes(self, over):
        return any(len(self.marks(over, state)) > 1 for state, _ in self.couples)


def all_tables(letters, size, targets):
    """All tables of transitions with so many states."""
    for row in itertools.product(targets, repeat=size * len(letters)):
        yield tuple(row[state * len(letters):(state + 1) * len(letters)] for state in range(size))
