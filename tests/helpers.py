"""What several test files need."""

import itertools
import random
import unittest

from wordfit.limits import POINTS
from wordfit.machines import Complete, Machine
from wordfit.merging import merged
from wordfit.points import Points, Prefixes
from wordfit.samples import Sample
from wordfit.search import fits, least_size
from wordfit.versions import Versions

BUILT_IN = {"UnknownWord": KeyError, "DuplicateWord": KeyError, "NothingToUndo": LookupError,
            "NothingToRedo": LookupError, "OutOfRange": IndexError, "TooLarge": ArithmeticError}

# Values of all kinds, none of which is a word over "ab", a sequence of words, a mark or a row.
ODD_VALUES = (0, 1, -1, 7, 10 ** 61 - 1, "A", "c", "a b", "a\n", "ab ", "1", {}, {"a": 1}, {1: [None, (True, "b")]},
              [0], ["c"], [["a"]], [None, 1], (5,), ((),), ((1, 2), [3]))

# Values that are no letters.
NO_LETTERS = ("", "ba", "aa", "aba", "abcde", "A", "Ab", "aB", "1", "a1", " ", "a b", "ab ", "ab\n", "-", "\xe4",
              "a\xdf", None, True, False, 0, 1, 10 ** 60, [], ["a"], ["a", "b"], (), ("a", "b"), {}, {"a": "b"},
              [[1], {}])

# What cannot stand in the place of the sequence of two rows over "ab", or of their marks.
NO_SEQUENCES = (None, True, False, 0, 1, "", "a", "ab", {}, {0: 1}, {0: (0, 0), 1: (0, 0)})

# What cannot stand in such rows, in the place of such a row, and in the place of a mark.
NO_TARGETS = (2, 3, -1, 10 ** 60, True, False, "", "0", "a", "-", (), [], (0,), [1], {}, {0: 0})
NO_ROWS = (None, True, False, 0, 1, "", "ab", "00", {}, {0: 0, 1: 1}, (), [], (0,), [0], (None,), (0, 0, 0),
           [0, 0, None])
NO_MARKS = (0, 1, 2, -1, "", "+", "True", "None", (), [], (True,), [None], {}, {True: True})

# What is no size of the machines that are looked for.
NO_SIZES = (0, -1, -10 ** 60, True, False, "2", "", None, (), [1], (2,), {}, {1: 2})


def all_words(letters, length):
    """All words of at most this length, in word order."""
    return ["".join(row) for many in range(length + 1) for row in itertools.product(letters, repeat=many)]


def rings(many, letters="a"):
    """So many points without marks, in a ring by each letter."""
    return Points(letters, [[(at + 1) % many] * len(letters) for at in range(many)], [None] * many)


def random_points(chance, letters, many):
    """So many points; the random source is passed."""
    nexts = [[chance.choice((None, *range(many))) for _ in letters] for _ in range(many)]
    return Points(letters, nexts, [chance.choice((None, True, False)) for _ in range(many)])


class ErrorCase(unittest.TestCase):
    def assert_error(self, expected, call, *values, **named):
        """The call raises an error of just this class, with this very value in its field."""
        with self.assertRaises(type(expected)) as caught:
            call(*values, **named)
        error = caught.exception
        self.assertIs(type(error), type(expected))
        self.assertEqual(type(error).__bases__, (BUILT_IN.get(type(error).__name__, ValueError),))
        # 1 and True are equal, but they are written differently.
        self.assertEqual(repr(vars(error)), repr(vars(expected)))


class NaiveWalk:
    """The walk of point [14] over points, for a table of transitions, with the words of the couples."""

    def __init__(self, rows, over):
        self.couples, self.words, self.needed, self.stopped = [(0, 0)], [""], [], None
        for state, point in self.couples:
            word = self.words[self.couples.index((state, point))]
            for letter, following in enumerate(over.nexts[point]):
                if following is None:
                    continue
                if rows[state][letter] is None:
                    self.stopped = (state, letter)
                    return
                if (state, letter) not in self.needed:
                    self.needed.append((state, letter))
                if (rows[state][letter], following) not in self.couples:
                    self.couples.append((rows[state][letter], following))
                    self.words.append(word + over.letters[letter])

    def marks(self, over, state):
        """The marks of the points with which a state is coupled."""
        return {over.marks[point] for found, point in self.couples if found == state} - {None}

    def clashes(self, over):
        return any(len(self.marks(over, state)) > 1 for state, _ in self.couples)


def all_tables(letters, size, targets):
    """All tables of transitions with so many states."""
    for row in itertools.product(targets, repeat=size * len(letters)):
        yield tuple(row[state * len(letters):(state + 1) * len(letters)] for state in range(size))


def order(word):
    return (len(word), word)


def words_of_states(machine):
    """The least word of each state, found by going through all words that are long enough; None if there is none."""
    words = [None] * machine.size
    for word in all_words(machine.letters, machine.size - 1):
        if words[machine.run(word)] is None:
            words[machine.run(word)] = word
    return words


def least_unreduced(machine):
    """The state that NotReduced names for a complete machine, None if the machine is reduced."""
    words = words_of_states(machine)
    if None in words:
        return words.index(None)
    endings = all_words(machine.letters, machine.size)
    answers = [[machine.answer(word + ending) for ending in endings] for word in words]
    return next((state for state in range(machine.size) if answers[state] in answers[:state]), None)


def all_machines(letters, size):
    """All complete machines of a size."""
    rows = list(itertools.product(range(size), repeat=len(letters)))
    for transitions in itertools.product(rows, repeat=size):
        for marks in itertools.product((True, False), repeat=size):
            yield Complete(letters, transitions, marks)


def random_machine(chance, letters, size):
    """A reduced machine."""
    while True:
        machine = Complete(letters, [[chance.randrange(size) for _ in letters] for _ in range(size)],
                           [chance.random() < 0.5 for _ in range(size)])
        if least_unreduced(machine) is None:
            return machine


def expected_fits(over, size):
    """All fits of a size, found by going through all tables of transitions."""
    found = []
    for rows in all_tables(over.letters, size, (None, *range(size))):
        walk = NaiveWalk(rows, over)
        needed = [(state, letter) for state in range(size) for letter in range(len(over.letters))
                  if rows[state][letter] is not None]
        states = list(dict.fromkeys(state for state, _ in walk.couples))
        if walk.stopped is None and states == list(range(size)) and sorted(walk.needed) == needed \
                and not walk.clashes(over):
            marks = [next(iter(walk.marks(over, state)), None) for state in range(size)]
            targets = tuple(rows[state][letter] for state, letter in walk.needed)
            found.append((targets, Machine(over.letters, rows, marks)))
    return [fit for _, fit in sorted(found, key=lambda pair: pair[0])]


def expected_size(over, most):
    """The least size, found by going through all complete tables of transitions."""
    for size in range(1, most + 1):
        if any(not NaiveWalk(rows, over).clashes(over) for rows in all_tables(over.letters, size, range(size))):
            return size
    return None


def random_sample(chance, letters, length, many):
    """A sample of so many words of at most this length, with marks by chance."""
    words = chance.sample(all_words(letters, length), many)
    yes = [word for word in words if chance.random() < 0.5]
    return Sample(letters, yes, [word for word in words if word not in yes])


def marked_words(sample):
    """The words of a sample, in word order."""
    return sorted(sample.yes + sample.no, key=order)


def sample_with(sample, words):
    """The sample that has these words of a sample."""
    return Sample(sample.letters, [word for word in sample.yes if word in words],
                  [word for word in sample.no if word in words])


def without(sample, word):
    return sample_with(sample, [known for known in marked_words(sample) if known != word])


def turned(sample, word):
    """The sample with the other mark for one of its words."""
    return without(sample, word).adding(word, mark=not sample.mark(word))


def small_samples(letters="ab", length=2):
    """All samples with words of at most this length."""
    words = all_words(letters, length)
    for marks in itertools.product((None, True, False), repeat=len(words)):
        yield Sample(letters, [word for word, mark in zip(words, marks) if mark],
                     [word for word, mark in zip(words, marks) if mark is False])


# 60 and 61 prefixes.
SIXTY = Sample("ab", all_words("ab", 5)[:60])
SIXTY_ONE = Sample("ab", all_words("ab", 5)[:61])


def expected_versions(over, most):
    """The list of all versions in their order, found by going through all complete machines; None if there are none."""
    for size in range(1, most + 1):
        found = []
        for rows in all_tables(over.letters, size, range(size)):
            walk = NaiveWalk(rows, over)
            if walk.clashes(over) or list(dict.fromkeys(state for state, _ in walk.couples)) != list(range(size)):
                continue
            fit = [rows[state][letter] for state, letter in walk.needed]
            gaps = [rows[state][letter] for state in range(size) for letter in range(len(over.letters))
                    if (state, letter) not in walk.needed]
            for marks in itertools.product((False, True), repeat=size):
                blanks = [mark for state, mark in enumerate(marks) if not walk.marks(over, state)]
                if all(walk.marks(over, state) <= {mark} for state, mark in enumerate(marks)):
                    found.append(((fit, gaps, blanks), Complete(over.letters, rows, marks)))
        if found:
            return [machine for _, machine in sorted(found, key=lambda pair: pair[0])]
    return None


def random_open_machine(chance, letters, size, targets=None, marks=(True, False, None)):
    """A machine that need not be complete, reduced or reached by words."""
    targets = (None, *range(size)) if targets is None else targets
    return Machine(letters, [[chance.choice(targets) for _ in letters] for _ in range(size)],
                   [chance.choice(marks) for _ in range(size)])


def machines_to_compare(letters="ab", most=4):
    """Machines, complete or not, with states that no word reaches, that are not useful or equivalent to others."""
    row = [None] * len(letters)
    found = [Machine(letters, [row], [mark]) for mark in (True, False, None)]
    found += [Machine(letters, [[0] * len(letters)], [mark]) for mark in (True, False, None)]
    # Two equivalent states, a state that is not useful, and one that no word reaches.
    zero, one, two = [[target] * len(letters) for target in range(3)]
    found += [Machine(letters, [one, two, row, zero], [True, None, None, True]),
              Machine(letters, [one, zero], [True, True]), Machine(letters, [one, zero, two], [None, None, True])]
    chance = random.Random(len(letters) * 100 + most)
    for size in range(1, most + 1):
        found += [random_open_machine(chance, letters, size) for _ in range(4)]
        found += [random_open_machine(chance, letters, size, range(size), (True, False)) for _ in range(2)]
        found += [random_open_machine(chance, letters, size, marks=(True, None, None)) for _ in range(2)]
    return found


# A machine with 20 states, the most that can be compared, and one with 21; their states form a ring by each letter.
TWENTY, TWENTY_ONE = [Machine("ab", [((at + 1) % many,) * 2 for at in range(many)], [True] + [False] * (many - 1))
                      for many in (20, 21)]
OTHER_TWENTY_ONE = Machine("ac", TWENTY_ONE.transitions, TWENTY_ONE.marks)


class NotebookCase(ErrorCase):
    def shown(self, book):
        """All that a notebook shows. Equal calls return equal results."""
        answers = [book.version_answers(word) for word in all_words(book.letters, 2)]
        return (book.letters, list(book.entries()), len(book), book.most, book.sample, book.size, book.least,
                book.merged, book.version_count(), answers, book.undoable, book.redoable, book.text)

    def assert_refused(self, expected, book, call, *values, **named):
        """The call raises an error and changes nothing."""
        before = self.shown(book)
        self.assert_error(expected, call, *values, **named)
        self.assertEqual(self.shown(book), before)

    def assert_shows(self, book, entries):
        """The notebook has these entries, and its properties are those of their sample and of its present `most`."""
        sample = Sample(book.letters, [word for word, mark in entries if mark is True],
                        [word for word, mark in entries if mark is False])
        self.assertEqual(list(book.entries()), list(entries))
        self.assertEqual({type(entry) for entry in book.entries()} - {tuple}, set())
        self.assertEqual((len(book), book.sample), (len(entries), sample))
        self.assertEqual(book.merged, merged(sample))
        over = Prefixes(sample)
        size = least_size(over, book.most) if over.size <= POINTS else None
        self.assertEqual(book.size, size)
        words = all_words(book.letters, 2)
        if size is None:
            self.assertEqual((book.least, book.version_count()), (None, None))
            self.assertEqual([book.version_answers(word) for word in words], [None] * len(words))
        else:
            versions = Versions(over, book.most)
            self.assertEqual((book.least, book.version_count()), (next(fits(over, size)), versions.total))
            self.assertEqual([book.version_answers(word) for word in words], [versions.answers(word) for word in words])


# What is no word over "ab" of at most twelve letters.
NO_ENTRY_WORDS = (*ODD_VALUES, None, True, False, "abc", "a" * 13, "ab" * 7, ("a",), ["a", "b"], "-", "\xe4")
# What is no number of steps, and no greatest size.
NO_COUNTS = (0, -1, -10 ** 60, True, False, "1", "", None, (), [1], (2,), {}, {1: 2})
