"""Points [58] and [60] and the interface's section wordfit/separators.py."""

import itertools
import random
import unittest

from helpers import (NO_SIZES, OTHER_TWENTY_ONE, TWENTY, TWENTY_ONE, ErrorCase, all_words, machines_to_compare,
                     random_open_machine)
from wordfit import separators
from wordfit.errors import InvalidLetters, NotApart, OutOfRange, TooLarge
from wordfit.limits import CHOICES, COMPARED, POINTS
from wordfit.machines import Complete, Machine
from wordfit.pairs import Pairs
from wordfit.points import Prefixes, fits_points
from wordfit.samples import Sample
from wordfit.search import fits, least_size
from wordfit.separators import first_mistake, separates, separator

A = Machine("ab", ((1, None), (None, None)), (None, True))
B = Machine("ab", ((None, 1), (None, None)), (None, True))
NOTHING = Machine("ab", [(0, 0)], [None])
MOST = {"a": 8, "ab": 4, "abc": 2}
# A ring of 4 states has 60 pairs with a ring of 15 states, and 61 if one state comes before this ring.
FOUR = Machine("a", [[1], [2], [3], [0]], [True, None, False, None])
FIFTEEN = Machine("a", [[(at + 1) % 15] for at in range(15)], [None] * 15)
AFTER_ONE = Machine("a", [[1]] + [[at % 15 + 1] for at in range(1, 16)], [False] * 16)


def expected_mistake(machine, one, other, words):
    for word in words:
        if one.answer(word) is True and machine.answer(word) is not True:
            return word
        if other.answer(word) is True and machine.answer(word) is not False:
            return word
    return None


def some_pairs():
    """Pairs of machines that have no common word."""
    for letters, states, step in (("a", 4, 3), ("ab", 3, 2), ("abc", 2, 5)):
        machines = machines_to_compare(letters, states)
        for one, other in itertools.islice(itertools.product(machines, repeat=2), 0, None, step):
            words = all_words(letters, 6 if letters == "abc" else 9)
            if not any(one.answer(word) and other.answer(word) for word in words):
                yield one, other


class SeparatorTest(ErrorCase):
    def test_the_examples(self):
        self.assertEqual(separator(A, B, 4).transitions, ((0, 1), (None, None)))
        self.assertIsNone(separator(A, B, 1))

    def test_the_first_fit_of_the_pairs(self):
        sizes = []
        for one, other in some_pairs():
            over = Pairs(one, other)
            size = least_size(over, MOST[one.letters])
            for most in range(1, MOST[one.letters] + 1):
                found = separator(one, other, most)
                if size is None or size > most:
                    self.assertIsNone(found)
                else:
                    self.assertEqual(found, next(fits(over, size)))
                    self.assertIs(type(found), Machine)
                    self.assertTrue(separates(found, one, other))
            sizes.append(size)
        self.assertGreater(len(sizes), 100)
        self.assertGreater(min(sizes.count(1), sizes.count(2)), 10)
        self.assertIn(3, sizes)

    def test_samples_have_no_greater_least_size(self):
        for one, other in itertools.islice(some_pairs(), 0, None, 4):
            words = all_words(one.letters, 3)
            sample = Sample(one.letters, [word for word in words if one.answer(word)],
                            [word for word in words if other.answer(word)])
            size = least_size(Pairs(one, other), MOST[one.letters])
            if size is not None:
                self.assertLessEqual(least_size(Prefixes(sample), MOST[one.letters]), size)

    def test_a_most_size_that_is_too_small(self):
        one = Machine("a", [[1], [2], [3], [0]], [True, None, None, None])
        other = Machine("a", [[1], [2], [3], [0]], [None, None, True, None])
        found = [separator(one, other, most) for most in range(1, 9)]
        self.assertEqual([machine is None for machine in found], [True] * 3 + [False] * 5)
        self.assertEqual(separator(one, other, 8), Machine("a", [[1], [2], [3], [0]], [True, None, False, None]))

    def test_no_marked_pair(self):
        self.assertEqual(separator(NOTHING, NOTHING, 1), NOTHING)
        for machine in (A, B, Machine("ab", [(None, None)], [None]), Complete("ab", [(0, 0)], [False]), TWENTY):
            self.assertIs(separates(machine, NOTHING, NOTHING), True)
            self.assertIsNone(first_mistake(machine, NOTHING, NOTHING))
        self.assertFalse(fits_points(Machine("ab", [(None, None)], [None]), Pairs(NOTHING, NOTHING)))

    def test_sixty_and_sixty_one_pairs(self):
        self.assertEqual(Pairs(FOUR, FIFTEEN).size, 60)
        self.assertEqual(separator(FOUR, FIFTEEN, 8), Machine("a", [[0]], [True]))
        self.assertEqual(Pairs(FOUR, AFTER_ONE).size, 61)
        for most in (1, 8, 9, 10 ** 60):
            self.assert_error(TooLarge(POINTS), separator, FOUR, AFTER_ONE, most)

    def test_by_name(self):
        self.assertEqual(separator(most=4, other=B, one=A), separator(A, B, 4))
        self.assertIs(separates(other=B, one=A, machine=A), False)
        self.assertEqual(first_mistake(other=B, one=A, machine=A), "b")

    def test_what_is_defined_here(self):
        for function in (separator, separates, first_mistake):
            self.assertEqual(function.__module__, separators.__name__)


class SeparatesTest(ErrorCase):
    def check(self, machine, one, other, words):
        expected = expected_mistake(machine, one, other, words)
        self.assertEqual(first_mistake(machine, one, other), expected)
        self.assertIs(separates(machine, one, other), expected is None)
        return expected

    def test_the_examples(self):
        self.assertIs(separates(A, A, B), False)
        self.assertEqual(first_mistake(A, A, B), "b")
        self.assertIs(separates(Machine("ab", [(0, 1), (None, None)], [True, False]), A, B), True)

    def test_all_short_words(self):
        chance = random.Random(33)
        found = []
        for letters, length in (("a", 40), ("ab", 9), ("abc", 6)):
            words = all_words(letters, length)
            machines = machines_to_compare(letters, 3)
            for _ in range(150):
                one, other = chance.choice(machines), chance.choice(machines)
                machine = chance.choice((chance.choice(machines), one, random_open_machine(chance, letters, 2, (0, 1))))
                found.append(self.check(machine, one, other, words))
        self.assertGreater(found.count(None), 20)
        self.assertGreater(len(set(found)), 8)

    def test_it_separates_exactly_if_it_fits_the_pairs(self):
        chance = random.Random(34)
        results = []
        for one, other in itertools.islice(some_pairs(), 0, None, 2):
            over = Pairs(one, other)
            machines = [random_open_machine(chance, one.letters, size, marks=(True, False)) for size in (1, 2, 2, 3)]
            machines += [Complete(one.letters, [[0] * len(one.letters)], [mark]) for mark in (True, False)]
            found = separator(one, other, MOST[one.letters])
            for machine in [*machines, *([found] if found else [])]:
                results.append(separates(machine, one, other))
                if any(mark is not None for mark in over.marks):
                    self.assertIs(results[-1], fits_points(machine, over))
                else:
                    self.assertIs(results[-1], True)
        self.assertGreater(min(results.count(True), results.count(False)), 50)

    def test_machines_with_a_common_word(self):
        for machine in (A, B, NOTHING, Complete("ab", [(0, 0)], [True]), Complete("ab", [(0, 0)], [False])):
            self.assertIs(separates(machine, A, A), False)
            self.assertEqual(first_mistake(machine, A, A), "a")
        self.assertEqual(first_mistake(Complete("ab", [(0, 0)], [True]), TWENTY, TWENTY), "")

    def test_twenty_states(self):
        later = Machine("ab", TWENTY.transitions, [at == 19 for at in range(20)])
        self.assertIs(separates(TWENTY, TWENTY, later), True)
        self.assertEqual(first_mistake(Complete("ab", [(0, 0)], [True]), TWENTY, later), "a" * 19)
        shorter = Machine("ab", [((at + 1) % 19,) * 2 for at in range(19)], [True] + [False] * 18)
        self.assertEqual(first_mistake(shorter, TWENTY, later), "a" * 19)
        self.assertEqual(separator(Machine("a", [[1], [0]], [True, False]), Machine("a", [[1], [0]], [False, True]), 2),
                         Complete("a", [[1], [0]], [True, False]))


class ErrorsTest(ErrorCase):
    def test_the_errors_of_the_pairs_come_first(self):
        for most in (*NO_SIZES, 1, 4, 5):
            self.assert_error(InvalidLetters(), separator, TWENTY_ONE, OTHER_TWENTY_ONE, most)
            self.assert_error(InvalidLetters(), separator, A, Machine("a", [[0]], [True]), most)
            self.assert_error(TooLarge(COMPARED), separator, TWENTY_ONE, TWENTY, most)
            self.assert_error(TooLarge(COMPARED), separator, A, TWENTY_ONE, most)
            self.assert_error(NotApart("a"), separator, A, A, most)

    def test_sizes(self):
        for most in NO_SIZES:
            self.assert_error(OutOfRange(most), separator, A, B, most)
            self.assert_error(OutOfRange(most), separator, FOUR, AFTER_ONE, most)

    def test_too_many_choices(self):
        for letters, most in (("a", 9), ("ab", 5), ("abc", 3), ("abcd", 3), ("ab", 10 ** 60)):
            row = [[0] * len(letters)]
            one, other = Machine(letters, row, [True]), Machine(letters, row, [None])
            self.assert_error(TooLarge(CHOICES), separator, one, other, most)

    def test_separates(self):
        for function in (separates, first_mistake):
            for machines in itertools.permutations((A, B, TWENTY_ONE)):
                self.assert_error(TooLarge(COMPARED), function, *machines)
            for machines in itertools.permutations((A, TWENTY_ONE, OTHER_TWENTY_ONE)):
                self.assert_error(InvalidLetters(), function, *machines)
            for machines in itertools.permutations((A, Machine("a", [[0]], [True]), Machine("abc", [[0] * 3], [None]))):
                self.assert_error(InvalidLetters(), function, *machines)
            for machines in itertools.permutations((A, A, Machine("ac", [[0] * 2], [None]))):
                self.assert_error(InvalidLetters(), function, *machines)


if __name__ == "__main__":
    unittest.main()
