"""Points [13] to [15] and the interface's section wordfit/points.py."""

import itertools
import unittest

from helpers import NO_LETTERS, NO_MARKS, NO_ROWS, NO_SEQUENCES, NO_TARGETS, ErrorCase, all_words
from wordfit import points
from wordfit.errors import InvalidLetters, InvalidPoints, NotFit
from wordfit.machines import Complete, Machine
from wordfit.points import Points, Prefixes, fits_points, is_fit, needed_transitions, restricted
from wordfit.samples import Sample

SAMPLE = Sample("ab", ["a"], ["ab"])
# Points 0 and 1 form a ring by "a"; point 3 is reached by no word.
RING = Points("ab", [(1, None), (0, 2), (2, None), (0, 1)], [False, True, None, True])
POINTS = (Prefixes(SAMPLE), Prefixes(Sample("ab")), Prefixes(Sample("ab", [""], ["aa", "b"])), RING,
          Points("ab", [(None, None)], [True]), Points("ab", [(0, 0)], [None]),
          Points("ab", [(1, 1), (0, 1)], [True, False]), Points("ab", [(1, 2), (1, None), (0, 2)], [None, False, True]))


def parts(of):
    return (of.letters, of.nexts, of.marks, of.size)


def small_machines():
    """All machines with one or two states over "ab" whose transitions may be missing, with some marks."""
    for size, marks in ((1, [(None,), (True,), (False,)]), (2, [(False, True), (True, None), (None, False)])):
        targets = (None, *range(size))
        for row in itertools.product(targets, repeat=2 * size):
            for mark in marks:
                yield Machine("ab", [row[2 * state:2 * state + 2] for state in range(size)], mark)


class Reference:
    """The walk, by going through all words that are long enough to find every couple."""

    def __init__(self, machine, over):
        self.couples, self.needed, self.stops = [(0, 0)], [], False
        letters, ends = machine.letters, {"": (0, 0)}
        for word in all_words(letters, machine.size * over.size)[1:]:
            if word[:-1] not in ends:
                continue
            (state, point), letter = ends[word[:-1]], letters.index(word[-1])
            if over.nexts[point][letter] is None:
                continue
            target = machine.transitions[state][letter]
            if target is None:
                self.stops = True
                break
            if (state, word[-1], target) not in self.needed:
                self.needed.append((state, word[-1], target))
            ends[word] = (target, over.nexts[point][letter])
            if ends[word] not in self.couples:
                self.couples.append(ends[word])
        self.states = list(dict.fromkeys(state for state, _ in self.couples))
        self.marks = [{over.marks[point] for state, point in self.couples if state == found} - {None}
                      for found in self.states]
        self.fits = not self.stops and all(marks <= {machine.marks[state]}
                                           for state, marks in zip(self.states, self.marks))

    def fit(self, letters):
        """The fit that the machine contains."""
        rows = [[None] * len(letters) for _ in self.states]
        for state, letter, target in self.needed:
            rows[self.states.index(state)][letters.index(letter)] = self.states.index(target)
        return Machine(letters, rows, [next(iter(marks), None) for marks in self.marks])


class PointsTest(ErrorCase):
    def test_points(self):
        self.assertEqual(parts(Points("a", [[None]], [None])), ("a", ((None,),), (None,), 1))
        self.assertEqual(parts(RING), ("ab", ((1, None), (0, 2), (2, None), (0, 1)), (False, True, None, True), 4))

    def test_kinds_of_the_properties(self):
        for made in (RING, Points("ab", ((0, None),), (True,)), Prefixes(SAMPLE)):
            self.assertEqual([type(part) for part in parts(made)], [str, tuple, tuple, int])
            self.assertEqual({type(row) for row in made.nexts}, {tuple})

    def test_more_than_600_points(self):
        many = Points("a", [[(at + 1) % 5000] for at in range(5000)], [None] * 4999 + [True])
        self.assertEqual((many.size, many.nexts[4999]), (5000, (0,)))
        self.assert_error(InvalidPoints(4999), Points, "a", [[0]] * 4999 + [[5000]], [True] * 5000)

    def test_arguments_by_name(self):
        self.assertEqual(Points(marks=[None], nexts=[[0]], letters="a"), Points("a", [[0]], [None]))
        self.assertEqual(Prefixes(sample=SAMPLE).words, ("", "a", "ab"))

    def test_what_was_passed_may_be_changed_later(self):
        nexts, marks = [[1, 0], [0, 1]], [True, None]
        made = Points("ab", nexts, marks)
        self.assertEqual((nexts, marks), ([[1, 0], [0, 1]], [True, None]))
        nexts[0][0] = None
        nexts.append([5, 5])
        marks[1] = False
        self.assertEqual(parts(made), ("ab", ((1, 0), (0, 1)), (True, None), 2))

    def test_properties_cannot_be_assigned(self):
        for name in ("letters", "nexts", "marks", "size", "words"):
            with self.assertRaises(AttributeError):
                setattr(Prefixes(SAMPLE), name, ())

    def test_what_is_defined_here(self):
        for thing in (Points, Prefixes, fits_points, restricted, is_fit, needed_transitions):
            self.assertEqual(thing.__module__, points.__name__)
        for name in ("letters", "nexts", "marks", "size"):
            self.assertIn(name, vars(Points))
        self.assertIn("words", vars(Prefixes))
        self.assertEqual(Prefixes.__bases__, (Points,))

    def test_equality(self):
        made = Prefixes(Sample("ab", ["a"], ["ab"]))
        same = Points("ab", [[1, None], [None, 2], [None, None]], [None, True, False])
        for one in (made, same):
            for other in (made, same):
                self.assertTrue(one == other)
                self.assertFalse(one != other)
        others = (Points("ac", same.nexts, same.marks), Points("ab", same.nexts, [None, True, True]),
                  Points("ab", [[1, 0], [None, 2], [None, None]], same.marks), Prefixes(Sample("ab", ["a"])),
                  Machine("ab", same.nexts, same.marks), None, 0, "ab", parts(made), [], {}, object())
        for other in others:
            for one in (made, same):
                self.assertTrue(one != other)
                self.assertFalse(one == other)


class ErrorsTest(ErrorCase):
    def test_letters(self):
        for letters in NO_LETTERS:
            with self.subTest(letters=letters):
                self.assert_error(InvalidLetters(), Points, letters, [[0]], [True])
                self.assert_error(InvalidLetters(), Points, letters, None, [7])

    def test_what_is_no_sequence(self):
        for value in NO_SEQUENCES:
            with self.subTest(value=value):
                self.assert_error(InvalidPoints(None), Points, "ab", value, [True, True])
                self.assert_error(InvalidPoints(None), Points, "ab", [(0, 0), (0, 0)], value)
                self.assert_error(InvalidPoints(None), Points, "ab", value, value)

    def test_lengths(self):
        for nexts, marks in (([], []), ((), []), ([[0]], []), ([], [True]), ([[0]], [True, 7]), ([7, [0]], [True])):
            self.assert_error(InvalidPoints(None), Points, "a", nexts, marks)

    def test_nexts(self):
        for value in NO_TARGETS:
            with self.subTest(value=value):
                self.assert_error(InvalidPoints(0), Points, "ab", [(value, 0), (0, 0)], [True, True])
                self.assert_error(InvalidPoints(1), Points, "ab", [(0, 0), (1, value)], [True, True])

    def test_rows(self):
        for row in NO_ROWS:
            with self.subTest(row=row):
                self.assert_error(InvalidPoints(0), Points, "ab", [row, (0, 0)], [True, True])
                self.assert_error(InvalidPoints(1), Points, "ab", [(0, 0), row], [True, True])

    def test_marks(self):
        for mark in NO_MARKS:
            with self.subTest(mark=mark):
                self.assert_error(InvalidPoints(0), Points, "ab", [(0, 0), (0, 0)], [mark, True])
                self.assert_error(InvalidPoints(1), Points, "ab", [(0, 0), (0, 0)], [True, mark])

    def test_the_first_point(self):
        self.assert_error(InvalidPoints(1), Points, "a", [[0], [3], [3]], [True, True, 7])
        self.assert_error(InvalidPoints(0), Points, "a", [[0], [3], [3]], [7, True, 7])
        self.assert_error(InvalidPoints(1), Points, "a", [[0], [1], [3]], [True, 0, True])

    def test_other_letters(self):
        machines = (Machine("a", [[0]], [None]), Machine("bc", [[0, 0]], [None]), Complete("abc", [[0, 0, 0]], [True]))
        for machine in machines:
            for over in POINTS:
                for function in (fits_points, restricted, is_fit, needed_transitions):
                    self.assert_error(InvalidLetters(), function, machine, over)


class PrefixesTest(unittest.TestCase):
    def test_the_example(self):
        made = Prefixes(SAMPLE)
        self.assertEqual(made.words, ("", "a", "ab"))
        self.assertEqual(parts(made), ("ab", ((1, None), (None, 2), (None, None)), (None, True, False), 3))

    def test_no_words(self):
        made = Prefixes(Sample("abc"))
        self.assertEqual(made.words, ("",))
        self.assertEqual(parts(made), ("abc", ((None, None, None),), (None,), 1))

    def test_the_prefixes_in_word_order(self):
        made = Prefixes(Sample("ab", ["", "bab"], ["bb", "aa"]))
        self.assertEqual(made.words, ("", "a", "b", "aa", "ba", "bb", "bab"))
        self.assertEqual(made.nexts, ((1, 2), (3, None), (4, 5), (None, None), (None, 6), (None, None), (None, None)))
        self.assertEqual(made.marks, (True, None, None, False, None, False, True))

    def test_many_prefixes(self):
        words = [start + "a" * 9 for start in all_words("abcd", 3)[21:78]]
        made = Prefixes(Sample("abcd", words))
        self.assertEqual(made.size, len({word[:length] for word in words for length in range(13)}))
        for number, word in enumerate(made.words):
            for letter, following in zip("abcd", made.nexts[number]):
                expected = made.words.index(word + letter) if word + letter in made.words else None
                self.assertEqual(following, expected)


class WalkTest(ErrorCase):
    """fits_points, restricted, is_fit and needed_transitions."""

    def test_all_small_machines(self):
        for over in POINTS:
            for machine in small_machines():
                reference = Reference(machine, over)
                self.assertIs(fits_points(machine, over), reference.fits)
                if not reference.fits:
                    self.assert_error(NotFit(), restricted, machine, over)
                    self.assert_error(NotFit(), needed_transitions, machine, over)
                    self.assertIs(is_fit(machine, over), False)
                    continue
                fit = reference.fit("ab")
                self.assertEqual(restricted(machine, over), fit)
                self.assertIs(is_fit(machine, over), machine == fit)
                self.assertIs(is_fit(fit, over), True)
                self.assertEqual(needed_transitions(fit, over), Reference(fit, over).needed)
                if machine != fit:
                    self.assert_error(NotFit(), needed_transitions, machine, over)

    def test_a_machine_fits_a_sample_if_it_answers_right(self):
        for yes, no in ((["a"], [""]), (["", "ab"], ["b"]), ([], ["a"]), (["aa", "bb"], ["ab", "ba"])):
            over = Prefixes(Sample("ab", yes, no))
            for machine in small_machines():
                right = all(machine.answer(word) is True for word in yes)
                right = right and all(machine.answer(word) is False for word in no)
                self.assertIs(fits_points(machine, over), right)

    def test_a_machine_with_more_than_is_needed(self):
        over = Prefixes(SAMPLE)
        machine = Complete("ab", [(3, 2), (1, 1), (0, 1), (2, 1)], [True, False, True, True])
        fit = Machine("ab", [(1, None), (None, 2), (None, None)], [None, True, False])
        self.assertTrue(fits_points(machine, over))
        self.assertFalse(is_fit(machine, over))
        self.assertEqual(restricted(machine, over), fit)
        self.assertIs(type(restricted(machine, over)), Machine)
        self.assertTrue(is_fit(fit, over))
        self.assertEqual(needed_transitions(fit, over), [(0, "a", 1), (1, "b", 2)])

    def test_a_fit_with_one_thing_changed(self):
        over = Prefixes(SAMPLE)
        rows, marks = ((1, None), (None, 0)), (False, True)
        self.assertTrue(is_fit(Machine("ab", rows, marks), over))
        for others in ((((1, 0), (None, 0)), marks), (((1, None), (1, 0)), marks),
                       (((1, None), (None, 0), (None, None)), (False, True, None)),
                       (((1, None), (None, 2), (None, None)), (False, True, False)),
                       (((1, None), (None, 2), (None, None)), (None, True, False)),
                       (((2, None), (None, None), (None, 1)), (None, False, True))):
            machine = Machine("ab", *others)
            self.assertTrue(fits_points(machine, over))
            self.assertIs(is_fit(machine, over), others[0][1] == (None, 2) and others[1] == (None, True, False))
        for others in ((((1, None), (None, 1)), marks), (((0, None), (None, 0)), marks),
                       (((1, None), (None, None)), marks), (((None, None), (None, 0)), marks),
                       (rows, (False, False)), (rows, (None, True)), (rows, (False, None))):
            self.assertFalse(fits_points(Machine("ab", *others), over))
            self.assertFalse(is_fit(Machine("ab", *others), over))

    def test_a_point_that_no_word_reaches_does_not_matter(self):
        over = Points("a", [[0], [0]], [True, False])
        machine = Machine("a", [[0]], [True])
        self.assertTrue(is_fit(machine, over))
        self.assertEqual(needed_transitions(machine, over), [(0, "a", 0)])

    def test_the_order_of_the_needed_transitions(self):
        over = Prefixes(Sample("ab", ["ba", "ab"], ["aab"]))
        fit = Machine("ab", [(1, 0), (0, 1)], [False, True])
        self.assertEqual(needed_transitions(fit, over), [(0, "a", 1), (0, "b", 0), (1, "a", 0), (1, "b", 1)])
        later = Points("ab", [(None, 1), (2, None), (None, None)], [None, None, True])
        fit = Machine("ab", [(None, 1), (0, None)], [True, None])
        self.assertEqual(needed_transitions(fit, later), [(0, "b", 1), (1, "a", 0)])

    def test_large_rings(self):
        over = Points("a", [[(at + 1) % 601] for at in range(601)], [True] + [None] * 600)
        rows = [[(at + 1) % 600] for at in range(600)]
        self.assertTrue(fits_points(Machine("a", rows, [True] * 600), over))
        self.assertFalse(fits_points(Machine("a", rows, [True] * 599 + [None]), over))
        self.assertEqual(restricted(Complete("a", rows, [True] * 600), over), Machine("a", rows, [True] * 600))
        self.assertTrue(is_fit(Machine("a", [[0]], [True]), over))

    def test_nothing_is_kept_between_calls(self):
        over = Prefixes(SAMPLE)
        fit = Machine("ab", [(1, None), (None, 0)], [False, True])
        first = needed_transitions(fit, over)
        second = needed_transitions(fit, over)
        self.assertEqual(first, second)
        self.assertIsNot(first, second)
        first.clear()
        self.assertEqual(needed_transitions(fit, over), second)
        self.assertEqual(restricted(fit, over), restricted(fit, over))

    def test_arguments_by_name(self):
        fit = Machine("ab", [(1, None), (None, 0)], [False, True])
        over = Prefixes(SAMPLE)
        self.assertIs(fits_points(machine=fit, points=over), True)
        self.assertIs(is_fit(points=over, machine=fit), True)
        self.assertEqual(restricted(machine=fit, points=over), fit)
        self.assertEqual(needed_transitions(machine=fit, points=over), [(0, "a", 1), (1, "b", 0)])


if __name__ == "__main__":
    unittest.main()
