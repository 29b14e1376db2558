"""Points [4] and [15] to [17] and the interface's section wordfit/search.py."""

import random
import types
import unittest

from helpers import NO_SIZES, ErrorCase, all_words, expected_fits, expected_size, random_points, rings
from wordfit import search
from wordfit.errors import InvalidLetters, NotFit, OutOfRange, TooLarge
from wordfit.limits import CHOICES, POINTS
from wordfit.machines import Complete, Machine
from wordfit.points import Points, Prefixes, is_fit
from wordfit.samples import Sample
from wordfit.search import count_fits, fit_at, fit_number, fits, least_size

# Points 0 to 2 form a ring by "a"; no word reaches point 4.
RING = Points("ab", [(1, None), (2, 3), (0, None), (3, 0), (1, 1)], [False, None, True, None, False])
ONE_LETTER = [Prefixes(Sample("a", yes, no)) for yes, no in (
    ([], []), ([""], []), (["a"], [""]), (["a"], ["", "aa"]), (["", "aaa"], ["a"]), (["", "aaaaa"], ["a", "aaa"]),
    (["aaaa"], ["a", "aa", "aaa"]))]
ONE_LETTER += [Points("a", [[1], [2], [1], [0]], [None, True, False, True]), Points("a", [[0]], [None])]
TWO_LETTERS = [Prefixes(Sample("ab", yes, no)) for yes, no in (
    ([], []), (["ab"], []), (["a"], ["b"]), (["ab"], ["", "ba"]), (["", "aa", "bb"], ["a", "b"]),
    (["ba"], ["aa", "bb"]))]
TWO_LETTERS += [RING, Points("ab", [(0, 0)], [None]), Points("ab", [(1, 0), (0, 1)], [True, False]),
                Points("ab", [(None, 1), (None, None)], [True, True])]


class LeastSizeTest(ErrorCase):
    def test_the_example(self):
        self.assertEqual(least_size(Prefixes(Sample("a", ["a"], ["", "aa"])), 3), 2)

    def test_one_letter(self):
        for over in ONE_LETTER:
            for most in range(1, 6):
                self.assertEqual(least_size(over, most), expected_size(over, most))

    def test_two_letters(self):
        for over in TWO_LETTERS:
            for most in range(1, 4):
                self.assertEqual(least_size(over, most), expected_size(over, most))

    def test_more_letters(self):
        for yes, no in (([], []), (["c"], [""]), (["ab", "c"], ["b", "a"]), (["d"], ["dd", "a"]),
                        (["a", "dd"], ["b", "c"])):
            over = Prefixes(Sample("abcd", yes, no))
            self.assertEqual(least_size(over, 2), expected_size(over, 2))
            self.assertEqual(least_size(over, 1), expected_size(over, 1))

    def test_random_points(self):
        chance = random.Random(1)
        for _ in range(60):
            over = random_points(chance, "ab", chance.randrange(1, 6))
            self.assertEqual(least_size(over, 3), expected_size(over, 3))
            over = random_points(chance, "a", chance.randrange(1, 8))
            self.assertEqual(least_size(over, 4), expected_size(over, 4))

    def test_small_samples(self):
        words = all_words("ab", 2)
        for number in range(3 ** 7):
            marks = [number // 3 ** at % 3 for at in range(7)]
            if number % 7 == 0:
                over = Prefixes(Sample("ab", [word for word, mark in zip(words, marks) if mark == 1],
                                       [word for word, mark in zip(words, marks) if mark == 2]))
                self.assertEqual(least_size(over, 2), expected_size(over, 2))

    def test_a_limit_that_is_too_small(self):
        over = Prefixes(Sample("a", ["aaaaaaa"], ["a" * many for many in range(7)]))
        self.assertEqual([least_size(over, most) for most in range(1, 9)], [None] * 7 + [8])
        over = Prefixes(Sample("ab", ["aaa"], ["", "a", "aa"]))
        self.assertEqual([least_size(over, most) for most in range(1, 5)], [None, None, None, 4])

    def test_points_that_no_machine_fits(self):
        over = Points("ab", [(0, 1), (2, 0), (1, 2)], [None, True, False])
        self.assertEqual(least_size(over, 4), expected_size(over, 3))
        never = rings(7)
        marked = Points("a", never.nexts, [True] + [False] * 6)
        self.assertEqual([least_size(marked, most) for most in (6, 7, 8)], [None, 7, 7])

    def test_sixty_points(self):
        self.assertEqual(least_size(Points("a", rings(60).nexts, [at % 5 == 0 for at in range(60)]), 8), 5)
        words = all_words("ab", 5)[:50]
        machine = Complete("ab", [(1, 2), (3, 0), (1, 3), (0, 1)], [True, False, True, False])
        over = Prefixes(Sample("ab", [word for word in words if machine.answer(word)],
                               [word for word in words if not machine.answer(word)]))
        self.assertEqual(least_size(over, 4), 4)
        self.assertIsNone(least_size(over, 3))

    def test_by_name(self):
        self.assertEqual(least_size(most=2, points=RING), least_size(RING, 2))


class FitsTest(ErrorCase):
    def check(self, over, size):
        expected = expected_fits(over, size)
        found = list(fits(over, size))
        self.assertEqual(found, expected)
        self.assertEqual({type(fit) for fit in found} - {Machine}, set())
        self.assertEqual(count_fits(over, size), len(expected))
        for number, fit in enumerate(expected):
            self.assertEqual(fit_at(over, size, number), fit)
            self.assertEqual(fit_number(over, fit), number)
        for number in (len(expected), len(expected) + 7, 10 ** 60, -1, True, False, "0", None, (0,), [], {}):
            self.assert_error(OutOfRange(number), fit_at, over, size, number)
        return len(expected)

    def test_one_letter(self):
        for over in ONE_LETTER:
            for size in (1, 2, 3):
                self.check(over, size)

    def test_two_letters(self):
        for over in TWO_LETTERS:
            for size in (1, 2):
                self.check(over, size)
        for over in (TWO_LETTERS[3], TWO_LETTERS[5], RING):
            self.assertGreater(self.check(over, 3), 0)

    def test_all_fits_of_three_states(self):
        over = Points("ab", [(1, 0), (0, 1)], [True, None])
        self.assertGreater(self.check(over, 3), 50)

    def test_random_points(self):
        chance = random.Random(2)
        for _ in range(40):
            over = random_points(chance, "ab", chance.randrange(1, 7))
            for size in (1, 2):
                self.check(over, size)

    def test_more_letters(self):
        over = Prefixes(Sample("abc", ["ca", "b"], ["ac", ""]))
        self.assertGreater(self.check(over, 2), 0)
        self.check(over, 1)

    def test_the_numbers_of_all_machines(self):
        # Where every transition is needed and nothing is marked, the fits are all machines whose states are reached.
        whole = Points("ab", [(0, 0)], [None])
        self.assertEqual([count_fits(whole, size) for size in (1, 2, 3, 4)], [1, 12, 216, 5248])
        self.assertEqual([count_fits(rings(60), size) for size in range(1, 9)], [1, 2, 3, 4, 5, 6, 7, 8])
        self.assertEqual(count_fits(Points("abcd", [(0, 0, 0, 0)], [None]), 2), 2 ** 8 - 2 ** 4)
        self.assertEqual(count_fits(Points("abc", [(0, 0, 0)], [None]), 2), 2 ** 6 - 2 ** 3)

    def test_the_order_of_many(self):
        over = Points("ab", [(0, 0)], [None])
        found = [sum(fit.transitions, ()) for fit in fits(over, 3)]
        self.assertEqual(found[0], (0, 1, 0, 2, 0, 0))
        self.assertEqual(len(set(found)), 216)
        self.assertEqual(fit_number(over, fit_at(over, 4, 5247)), 5247)

    def test_the_fits_are_fits(self):
        over = Points("a", rings(60).nexts, [at % 4 == 0 or None for at in range(60)])
        found = list(fits(over, 8))
        self.assertTrue(all(is_fit(fit, over) and fit.size == 8 for fit in found))
        self.assertEqual(count_fits(over, 8), len(found))

    def test_a_sample_without_words(self):
        over = Prefixes(Sample("ab"))
        self.assertEqual(list(fits(over, 1)), [Machine("ab", [(None, None)], [None])])
        self.assertEqual(list(fits(over, 2)), [])
        self.assertEqual(count_fits(over, 4), 0)
        self.assert_error(OutOfRange(0), fit_at, over, 2, 0)

    def test_equal_calls(self):
        over = TWO_LETTERS[3]
        self.assertEqual(list(fits(over, 3)), list(fits(over, 3)))
        part = fits(over, 3)
        next(part)
        self.assertEqual(next(fits(over, 3)), fit_at(over, 3, 0))
        self.assertEqual(next(part), fit_at(over, 3, 1))

    def test_by_name(self):
        over = TWO_LETTERS[3]
        fit = fit_at(number=2, size=3, points=over)
        self.assertEqual(fit_number(machine=fit, points=over), 2)
        self.assertEqual(list(fits(size=3, points=over))[2], fit)
        self.assertEqual(count_fits(size=3, points=over), count_fits(over, 3))

    def test_what_is_defined_here(self):
        for function in (least_size, fits, count_fits, fit_at, fit_number):
            self.assertEqual(function.__module__, search.__name__)
        self.assertIsInstance(fits(RING, 1), types.GeneratorType)


class ErrorsTest(ErrorCase):
    def check(self, expected, over, size):
        self.assert_error(expected, least_size, over, size)
        self.assert_error(expected, count_fits, over, size)
        self.assert_error(expected, list, fits(over, size))
        for number in (0, -1, None):
            self.assert_error(expected, fit_at, over, size, number)

    def test_sizes(self):
        for size in NO_SIZES:
            with self.subTest(size=size):
                self.check(OutOfRange(size), RING, size)
                self.check(OutOfRange(size), rings(61), size)

    def test_sixty_one_points(self):
        self.assertEqual(least_size(rings(60), 1), 1)
        self.check(TooLarge(POINTS), rings(61), 1)
        self.check(TooLarge(POINTS), rings(61), 9)
        self.check(TooLarge(POINTS), rings(700), 10 ** 60)

    def test_choices(self):
        for letters, size in (("a", 8), ("ab", 4), ("abc", 2), ("abcd", 2)):
            self.assertEqual(least_size(rings(60, letters), size), 1)
            self.assertGreater(count_fits(rings(2, letters), size), 0)
            self.check(TooLarge(CHOICES), rings(60, letters), size + 1)
            self.check(TooLarge(CHOICES), rings(1, letters), 10 ** 60)

    def test_an_error_of_the_generator_is_raised_when_it_is_iterated(self):
        found = fits(RING, 0)
        self.assert_error(OutOfRange(0), next, found)

    def test_fit_number(self):
        over = Prefixes(Sample("ab", ["a"], ["ab"]))
        fit = Machine("ab", [(1, None), (None, 0)], [False, True])
        self.assertEqual(fit_number(over, fit), 1)
        for machine in (Machine("a", [[0]], [None]), Machine("ac", [(1, None), (None, 0)], [False, True])):
            self.assert_error(InvalidLetters(), fit_number, over, machine)
            self.assert_error(InvalidLetters(), fit_number, rings(61, "ab"), machine)
        for machine in (Complete("ab", [(1, 0), (0, 0)], [False, True]), Machine("ab", [(0, 0)] * 5, [None] * 5),
                        Machine("ab", [(1, None), (None, 0)], [True, False]), Machine("ab", [(0, None)], [True])):
            self.assert_error(NotFit(), fit_number, over, machine)
            self.assert_error(NotFit(), fit_number, rings(61, "ab"), machine)
        self.assert_error(TooLarge(POINTS), fit_number, rings(61, "ab"), Machine("ab", [(0, 0)], [None]))
        nine = Machine("a", [[at + 1] for at in range(8)] + [[0]], [None] * 9)
        self.assert_error(TooLarge(POINTS), fit_number, rings(61), nine)
        self.assert_error(TooLarge(CHOICES), fit_number, rings(60), nine)
        word = Prefixes(Sample("ab", ["aaaa"]))
        rows = [(at + 1, None) for at in range(4)] + [(None, None)]
        self.assert_error(TooLarge(CHOICES), fit_number, word, Machine("ab", rows, [None] * 4 + [True]))

    def test_a_complete_fit(self):
        over = Points("ab", [(1, 0), (0, 1)], [True, False])
        self.assertEqual(fit_number(over, Complete("ab", [(1, 0), (0, 1)], [True, False])), 0)


if __name__ == "__main__":
    unittest.main()
