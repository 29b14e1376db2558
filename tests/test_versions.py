"""Points [4] and [50] to [53] and the interface's section wordfit/versions.py."""

import itertools
import random
import types
import unittest

from helpers import (NO_SIZES, ODD_VALUES, SIXTY, SIXTY_ONE, ErrorCase, all_words, expected_versions,
                     random_points, random_sample, rings, small_samples)
from wordfit import versions
from wordfit.errors import InvalidWord, NotVersion, OutOfRange, TooLarge
from wordfit.limits import CHOICES, POINTS
from wordfit.machines import Complete, Machine
from wordfit.points import Points, Prefixes, fits_points, restricted
from wordfit.samples import Sample
from wordfit.search import count_fits, fit_number, fits, least_size
from wordfit.versions import Versions

P = Prefixes(Sample("a", ["a"], [""]))
# Points 0 to 2 form a ring by "a"; no word reaches point 4.
RING = Points("ab", [(1, None), (2, 3), (0, None), (3, 0), (1, 1)], [False, None, True, None, False])
# Each fit has four states; five transitions are missing.
LINE = Prefixes(Sample("ab", ["aaa"], ["", "a", "aa"]))
# The first fit is contained in one version, and the second one in three.
UNEQUAL = Prefixes(Sample("ab", ["", "b", "aab"], ["abb", "baa", "bab"]))
# Four states are needed, and in some fits two of them have no mark.
BLANK = Prefixes(Sample("a", ["", "a" * 4, "a" * 8], ["aa", "a" * 6]))
NO_WORDS = (*ODD_VALUES, None, True, False, "abc", "ba ", b"a", ("a",), ["a", "b"])


def some_points():
    """Points of samples and points with rings, over one to three letters, that a machine with three states fits."""
    found = [P, RING, rings(3), rings(2, "ab"), Points("ab", [(0, 0)], [None])]
    found += [Points("abc", [(0, 1, None), (1, 0, 0)], [True, None])]
    found += [Points("ab", [(1, 0), (0, 1)], [True, False])]
    found += [Points("a", [[1], [2], [1], [0]], [None, True, False, True])]
    found += [Points("ab", [(1, 2), (2, 0), (0, 1)], [True, False, None])]
    found += [Prefixes(Sample("abc", ["ca", "b"], ["ac", ""]))]
    found += [Prefixes(Sample(letters)) for letters in ("a", "ab", "abc")] + [Prefixes(Sample("ab", ["aa"], ["", "a"]))]
    found += [Prefixes(sample) for sample in itertools.islice(small_samples(), 5, None, 97)]
    found += [Prefixes(sample) for sample in itertools.islice(small_samples("a", 3), 0, None, 4)]
    chance = random.Random(26)
    found += [random_points(chance, letters, chance.randrange(1, 6)) for letters in ("a", "ab", "ab", "abc") * 8]
    return [over for over in found if least_size(over, 2 if len(over.letters) == 3 else 3) is not None]


class AllVersionsTest(ErrorCase):
    def check(self, over, most):
        expected = expected_versions(over, most)
        made = Versions(over, most)
        self.assertEqual(made.size, expected[0].size)
        self.assertEqual(made.total, len(expected))
        self.assertEqual(list(made.machines()), expected)
        self.assertEqual({type(machine) for machine in made.machines()}, {Complete})
        for number, machine in enumerate(expected):
            if number < 20 or number % 17 == 0 or number == len(expected) - 1:
                self.assertEqual(made.machine_at(number), machine)
                self.assertIs(type(made.machine_at(number)), Complete)
                self.assertEqual(made.number_of(machine), number)
                self.assertEqual(made.number_of(Machine(machine.letters, machine.transitions, machine.marks)), number)
        for number in (-1, len(expected), len(expected) + 1, -10 ** 60, 10 ** 60, True, False, "0", "", None, (0,), [],
                       {}, {0: 0}):
            self.assert_error(OutOfRange(number), made.machine_at, number)
        return expected

    def check_answers(self, over, most, words):
        expected = expected_versions(over, most)
        made = Versions(over, most)
        for word in words:
            true = sum(machine.answer(word) is True for machine in expected)
            answers = made.answers(word)
            self.assertEqual(answers, (true, len(expected) - true))
            self.assertIs(type(answers), tuple)
            self.assertIs(made.certain(word), {0: False, len(expected): True}.get(true))

    def test_all_versions(self):
        totals = [len(self.check(over, 2 if len(over.letters) == 3 else 3)) for over in some_points()]
        self.assertGreater(len(totals), 60)
        self.assertEqual(max(totals), 81)
        self.assertIn(1, totals)
        self.assertEqual(len(self.check(UNEQUAL, 3)), 4)
        self.assertEqual([fit.marks.count(None) for fit in fits(BLANK, 4)], [2])
        self.assertEqual(len(self.check(BLANK, 4)), 4)

    def test_answers(self):
        chance = random.Random(27)
        for over in some_points()[::2]:
            words = all_words(over.letters, 3)
            words += ["".join(chance.choice(over.letters) for _ in range(40)) for _ in range(5)]
            self.check_answers(over, 2 if len(over.letters) == 3 else 3, words)

    def test_the_words_of_the_sample(self):
        for sample in itertools.islice(small_samples(), 5, None, 61):
            made = Versions(Prefixes(sample), 4)
            for word, mark in [*[(word, True) for word in sample.yes], *[(word, False) for word in sample.no]]:
                self.assertIs(made.certain(word), mark)
                self.assertEqual(made.answers(word), (made.total, 0) if mark else (0, made.total))

    def test_the_number_of_versions_of_each_fit(self):
        for over in some_points():
            made = Versions(over, 4 if len(over.letters) < 3 else 2)
            many = 0
            numbers = []
            for fit in fits(over, made.size):
                gaps = sum(row.count(None) for row in fit.transitions)
                many += made.size ** gaps * 2 ** fit.marks.count(None)
            self.assertEqual(made.total, many)
            for machine in made.machines():
                self.assertTrue(fits_points(machine, over))
                numbers.append(fit_number(over, restricted(machine, over)))
            self.assertEqual(numbers, sorted(numbers))
            self.assertEqual(len(dict.fromkeys(numbers)), count_fits(over, made.size))

    def test_questions(self):
        for over in some_points()[::3]:
            made = Versions(over, 2 if len(over.letters) == 3 else 3)
            for length in range(5):
                numbers = [(max(made.answers(word)), at, word)
                           for at, word in enumerate(all_words(over.letters, length))]
                word = min(numbers)[2]
                question = made.question(length)
                self.assertEqual(question, (word, *made.answers(word)))
                self.assertIs(type(question), tuple)

    def test_each_answer_of_the_promise(self):
        chance = random.Random(28)
        for letters, many in (("a", 2), ("ab", 4), ("abc", 4)) * 8:
            sample = random_sample(chance, letters, 3, many)
            most = {"a": 4, "ab": 3, "abc": 2}[sample.letters]
            if least_size(Prefixes(sample), most) is None:
                continue
            made = Versions(Prefixes(sample), most)
            for word in all_words(sample.letters, 3)[:20]:
                if sample.mark(word) is None:
                    for mark, many in zip((True, False), made.answers(word)):
                        over = Prefixes(sample.adding(word, mark=mark))
                        if many > 0:
                            new = Versions(over, most)
                            self.assertEqual((new.size, new.total), (made.size, many))
                        else:
                            self.assertIsNone(least_size(over, made.size))


class VersionsTest(ErrorCase):
    def test_the_example(self):
        made = Versions(P, 4)
        self.assertEqual([made.size, made.total, made.machine_at(1).transitions, made.answers("aa"), made.question(2)],
                         [2, 2, ((1,), (1,)), (1, 1), ("aa", 1, 1)])
        self.assertEqual([made.certain(""), made.certain("a"), made.certain("aaa")], [False, True, True])

    def test_one_state(self):
        for letters in ("a", "abcd"):
            made = Versions(Prefixes(Sample(letters)), 2)
            row = [[0] * len(letters)]
            self.assertEqual(list(made.machines()), [Complete(letters, row, [False]), Complete(letters, row, [True])])
            self.assertEqual([made.answers(""), made.answers("aaaa"), made.certain("a"), made.question(4)],
                             [(1, 1), (1, 1), None, ("", 1, 1)])
            made = Versions(Prefixes(Sample(letters, ["a"])), 1)
            self.assertEqual([made.total, made.certain("aa"), made.question(4)], [1, True, ("", 1, 0)])

    def test_most_does_not_matter(self):
        for most in (2, 3, 8):
            self.assertEqual(list(Versions(P, most).machines()), list(Versions(P, 2).machines()))

    def test_the_questions_with_fewest_letters(self):
        made = Versions(P, 4)
        self.assertEqual([made.question(length) for length in range(5)],
                         [("", 0, 2), ("", 0, 2), ("aa", 1, 1), ("aa", 1, 1), ("aa", 1, 1)])
        self.assertEqual(Versions.LONGEST, 4)
        self.assertIs(type(made.LONGEST), int)

    def test_large_totals(self):
        made = Versions(LINE, 4)
        self.assertEqual((made.size, made.total), (4, 4 ** 5))
        self.assertEqual(made.machine_at(0), Complete("ab", [(1, 0), (2, 0), (3, 0), (0, 0)], [False] * 3 + [True]))
        self.assertEqual(made.machine_at(1), Complete("ab", [(1, 0), (2, 0), (3, 0), (0, 1)], [False] * 3 + [True]))
        self.assertEqual(made.machine_at(4 ** 5 - 1), Complete("ab", [(1, 3), (2, 3), (3, 3), (3, 3)],
                                                               [False] * 3 + [True]))
        for number in (0, 1, 4, 77, 1023):
            self.assertEqual(made.number_of(made.machine_at(number)), number)
        self.assertEqual(made.answers("b"), (256, 768))
        machines = list(made.machines())
        for word in ("ab", "bb", "aaab", "ab" * 20, "aaabbab" * 6):
            true = sum(machine.answer(word) for machine in machines)
            self.assertEqual(made.answers(word), (true, 1024 - true))
        self.assertEqual(sum(made.answers("abba" * 3000)), 1024)
        # Three of four states without a mark, and many fits.
        over = Points("ab", [(1, 2), (3, 0), (0, 3), (2, 1)], [True, None, None, False])
        made = Versions(over, 4)
        self.assertEqual(made.total, sum(1 for _ in made.machines()))

    def test_eight_states(self):
        sample = Sample("a", ["a" * 7], ["a" * many for many in range(7)])
        made = Versions(Prefixes(sample), 8)
        self.assertEqual((made.size, made.total), (8, 8))
        self.assertEqual([machine.transitions[7] for machine in made.machines()], [(at,) for at in range(8)])
        self.assertEqual([made.answers("a" * 8), made.answers("a" * 15), made.certain("a" * 7)], [(1, 7), (4, 4), True])

    def test_sixty_points(self):
        over = Points("a", rings(60).nexts, [at % 5 == 0 for at in range(60)])
        made = Versions(over, 8)
        self.assertEqual((made.size, made.total), (5, 1))
        self.assertEqual((made.certain("a" * 1000), made.certain("a" * 999)), (True, False))
        self.assertEqual(Versions(Prefixes(SIXTY), 4).total, 1)

    def test_machines_can_be_iterated_twice_at_once(self):
        made = Versions(LINE, 4)
        self.assertIsInstance(made.machines(), types.GeneratorType)
        first = made.machines()
        self.assertEqual(next(first), made.machine_at(0))
        second = list(made.machines())
        self.assertEqual(len(second), 1024)
        self.assertEqual(next(first), second[1])
        self.assertEqual(list(first), second[2:])

    def test_the_points_do_not_change(self):
        before = (RING.nexts, RING.marks)
        made = Versions(RING, 3)
        list(made.machines())
        made.question(3)
        self.assertEqual((RING.nexts, RING.marks), before)

    def test_kinds(self):
        made = Versions(P, 4)
        for name in ("size", "total"):
            with self.assertRaises(AttributeError):
                setattr(made, name, 1)
            self.assertIs(type(getattr(made, name)), int)

    def test_by_name(self):
        made = Versions(most=4, points=P)
        self.assertEqual(made.machine_at(number=1), made.machine_at(1))
        self.assertEqual(made.number_of(machine=made.machine_at(1)), 1)
        self.assertEqual(made.answers(word="aa"), (1, 1))
        self.assertIs(made.certain(word="aaa"), True)
        self.assertEqual(made.question(length=2), ("aa", 1, 1))

    def test_what_is_defined_here(self):
        self.assertEqual(Versions.__module__, versions.__name__)
        for name in ("size", "total", "machine_at", "number_of", "machines", "answers", "certain", "question",
                     "LONGEST"):
            self.assertIn(name, vars(Versions))


class ErrorsTest(ErrorCase):
    def test_numbers_that_are_no_sizes(self):
        for number in NO_SIZES:
            for over in (P, RING, Prefixes(SIXTY_ONE), Points("abcd", [[0] * 4], [None])):
                self.assert_error(OutOfRange(number), Versions, over, number)

    def test_too_many_points(self):
        for most in (1, 4, 5, 10 ** 60):
            self.assert_error(TooLarge(POINTS), Versions, Prefixes(SIXTY_ONE), most)
            self.assert_error(TooLarge(POINTS), Versions, rings(61), most)

    def test_too_many_choices(self):
        for letters, most in (("a", 9), ("ab", 5), ("abc", 3), ("abcd", 3), ("a", 10 ** 60)):
            self.assert_error(TooLarge(CHOICES), Versions, Prefixes(Sample(letters, ["a"])), most)

    def test_a_least_size_that_is_greater(self):
        self.assert_error(TooLarge(1), Versions, P, 1)
        for most in (1, 2, 3):
            self.assert_error(TooLarge(most), Versions, LINE, most)
        marked = Points("a", rings(7).nexts, [True] + [False] * 6)
        self.assert_error(TooLarge(6), Versions, marked, 6)
        self.assertEqual(Versions(marked, 7).total, 1)

    def test_machines_that_are_no_versions(self):
        over = Prefixes(Sample("ab", ["a"], ["", "b"]))
        made = Versions(over, 4)
        self.assertEqual(made.size, 2)
        numbers = []
        for rows in itertools.product(itertools.product((None, 0, 1), repeat=2), repeat=2):
            for marks in itertools.product((True, False, None), repeat=2):
                machine = Machine("ab", rows, marks)
                if machine in list(made.machines()):
                    numbers.append(made.number_of(machine))
                else:
                    self.assert_error(NotVersion(), made.number_of, machine)
        self.assertEqual(sorted(numbers), list(range(made.total)))

    def test_another_numbering_a_state_too_many_and_other_letters(self):
        made = Versions(P, 4)
        for machine in (Complete("a", [(0,), (0,)], [True, False]), Complete("a", [(1,), (0,)], [True, False]),
                        Complete("a", [(1,), (2,), (0,)], [False, True, False]), Complete("a", [(0,)], [True]),
                        Complete("a", [(1,), (0,), (0,)], [False, True, True]),
                        Machine("a", [(1,), (None,)], [False, True]),
                        Complete("b", [(1,), (0,)], [False, True]), Complete("ab", [(1, 0), (0, 0)], [False, True])):
            self.assert_error(NotVersion(), made.number_of, machine)
        # It fits, but it contains a fit of three states.
        made = Versions(Prefixes(Sample("a", ["a"], ["", "aa"])), 4)
        self.assert_error(NotVersion(), made.number_of, Complete("a", [(1,), (2,), (0,)], [False, True, False]))
        # The same machine with its states numbered otherwise.
        made = Versions(Prefixes(Sample("ab", ["b"], ["", "a", "ab"])), 4)
        machine = made.machine_at(0)
        self.assertEqual(machine.size, 3)
        for row in itertools.permutations(range(3)):
            rows = [[row[target] for target in machine.transitions[row.index(state)]] for state in range(3)]
            other = Complete("ab", rows, [machine.marks[row.index(state)] for state in range(3)])
            if row == (0, 1, 2):
                self.assertEqual(made.number_of(other), 0)
            else:
                self.assert_error(NotVersion(), made.number_of, other)

    def test_values_that_are_no_machines(self):
        made = Versions(P, 4)
        for value in (None, 0, True, "", "machine a\n- 1\n+ 0", ((1,), (0,)), [], {}):
            self.assert_error(NotVersion(), made.number_of, value)

    def test_incomplete_machines_of_one_state(self):
        made = Versions(Prefixes(Sample("ab", ["a"])), 1)
        self.assertEqual(made.number_of(Machine("ab", [(0, 0)], [True])), 0)
        for row in ((0, None), (None, 0), (None, None)):
            self.assert_error(NotVersion(), made.number_of, Machine("ab", [row], [True]))
        for mark in (False, None):
            self.assert_error(NotVersion(), made.number_of, Machine("ab", [(0, 0)], [mark]))

    def test_values_that_are_no_words(self):
        for made in (Versions(P, 4), Versions(Prefixes(Sample("ab", ["a"], [""])), 2)):
            for word in NO_WORDS:
                self.assert_error(InvalidWord(word), made.answers, word)
                self.assert_error(InvalidWord(word), made.certain, word)
        self.assert_error(InvalidWord("b"), Versions(P, 4).answers, "b")
        self.assertEqual(Versions(P, 4).answers("a" * 100), (1, 1))

    def test_values_that_are_no_lengths(self):
        made = Versions(P, 4)
        for length in (-1, 5, 10 ** 60, -10 ** 60, True, False, "1", "", None, (), [1], (2,), {}):
            self.assert_error(OutOfRange(length), made.question, length)


if __name__ == "__main__":
    unittest.main()
