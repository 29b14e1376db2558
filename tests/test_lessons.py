"""Points [33], [40] and [41] and the interface's section wordfit/lessons.py."""

import itertools
import random
import unittest

from helpers import (SIXTY_ONE, ErrorCase, all_machines, all_words, least_unreduced, marked_words, random_machine,
                     turned, without)
from wordfit import lessons
from wordfit.errors import NotComplete, NotReduced, TooLarge
from wordfit.lessons import is_lesson, lesson
from wordfit.limits import CHOICES, LESSON, POINTS
from wordfit.machines import Complete, Machine
from wordfit.points import Prefixes
from wordfit.samples import Sample
from wordfit.telling import told_sample
from wordfit.versions import Versions

M = Complete("a", [(1,), (0,)], [True, False])
ROW = Complete("a", [(1,), (2,), (2,)], [False, False, True])
WIDE = Complete("abc", [(1, 0, 1), (0, 1, 1)], [True, False])


def sample_for(machine, words):
    return Sample(machine.letters, [word for word in words if machine.answer(word)],
                  [word for word in words if not machine.answer(word)])


def is_equivalent(one, other):
    words = all_words(one.letters, one.size + other.size)
    return all(one.answer(word) is other.answer(word) for word in words)


class Slow:
    """The lessons for a machine, in the words of points [40] and [41]."""

    def __init__(self, machine):
        self.machine = machine
        self.words = all_words(machine.letters, 2 * machine.size - 2)
        machines = [other for size in range(1, machine.size + 1) for other in all_machines(machine.letters, size)]
        self.others = [other for other in machines if not is_equivalent(machine, other)]
        self.answers = [{word: other.answer(word) for word in all_words(machine.letters, 4)} for other in self.others]

    def is_lesson(self, sample):
        """Whether only machines that are equivalent to this one fit; they have its size, as it is reduced."""
        marks = {word: sample.mark(word) for word in marked_words(sample)}
        if any(self.machine.answer(word) is not mark for word, mark in marks.items()):
            return False
        return all(any(answers[word] is not mark for word, mark in marks.items()) for answers in self.answers)

    def lesson(self):
        for many in range(len(self.words) + 1):
            for chosen in itertools.combinations(range(len(self.words)), many):
                sample = sample_for(self.machine, [self.words[at] for at in chosen])
                if self.is_lesson(sample):
                    return sample
        raise AssertionError


def small_machines():
    """Reduced machines: all with few states and letters."""
    for letters, size in (("a", 1), ("ab", 1), ("abc", 1), ("abcd", 1), ("a", 2), ("ab", 2), ("a", 3)):
        yield from (machine for machine in all_machines(letters, size) if least_unreduced(machine) is None)


class LessonTest(ErrorCase):
    def check(self, machine):
        slow = Slow(machine)
        found = lesson(machine)
        self.assertEqual(found, slow.lesson())
        self.assertIs(type(found), Sample)
        self.assertIs(is_lesson(machine, found), True)
        versions = Versions(Prefixes(found), machine.size)
        self.assertEqual((versions.size, versions.total), (machine.size, 1))
        self.assertTrue(is_equivalent(versions.machine_at(0), machine))
        for word in marked_words(found):
            self.assertIs(is_lesson(machine, without(found, word)), False)

    def test_the_example(self):
        self.assertEqual(lesson(M), Sample("a", ["aa"], ["a"]))

    def test_all_small_machines(self):
        self.assertEqual(len(list(small_machines())), 60)
        for machine in small_machines():
            self.check(machine)

    def test_one_state(self):
        for letters in ("a", "ab", "abc", "abcd"):
            self.assertEqual(lesson(Complete(letters, [[0] * len(letters)], [True])), Sample(letters, [""]))
            self.assertEqual(lesson(Machine(letters, [[0] * len(letters)], [False])), Sample(letters, [], [""]))

    def test_two_states_over_three_letters(self):
        # 2 ** 6 * 2 ** 2 is 256.
        chance = random.Random(23)
        for machine in (WIDE, *[random_machine(chance, "abc", 2) for _ in range(3)]):
            found = lesson(machine)
            self.assertTrue(is_lesson(machine, found))
            slow = Slow(machine)
            self.assertTrue(slow.is_lesson(found))
            # No sample with fewer words is a lesson, and none with as many that comes first.
            words = slow.words
            places = tuple(words.index(word) for word in marked_words(found))
            for many in range(len(places) + 1):
                for chosen in itertools.combinations(range(len(words)), many):
                    if (many, chosen) < (len(places), places) and chance.random() < 0.1:
                        self.assertFalse(slow.is_lesson(sample_for(machine, [words[at] for at in chosen])))

    def test_another_numbering(self):
        one = Complete("a", [(1,), (2,), (2,)], [False, False, True])
        other = Complete("a", [(2,), (1,), (1,)], [False, True, False])
        self.assertEqual(lesson(one), lesson(other))
        self.assertIs(is_lesson(other, lesson(one)), True)

    def test_each_call_returns_an_equal_sample(self):
        self.assertEqual(lesson(ROW), lesson(ROW))
        self.assertEqual(lesson(machine=ROW), lesson(Machine("a", ROW.transitions, ROW.marks)))

    def test_what_is_defined_here(self):
        for function in (lesson, is_lesson):
            self.assertEqual(function.__module__, lessons.__name__)


class IsLessonTest(ErrorCase):
    def test_the_example(self):
        self.assertIs(is_lesson(M, Sample("a", ["aa"], ["a"])), True)
        self.assertIs(is_lesson(M, Sample("a", [""], ["a"])), False)

    def test_compared_with_a_slow_search(self):
        chance = random.Random(24)
        found = []
        for machine in small_machines():
            slow = Slow(machine)
            words = all_words(machine.letters, 3)[:40]
            for _ in range(8):
                sample = sample_for(machine, chance.sample(words, chance.randrange(len(words) + 1)))
                if chance.random() < 0.2 and sample.size > 0:
                    sample = turned(sample, chance.choice(marked_words(sample)))
                found.append(is_lesson(machine, sample))
                self.assertIs(found[-1], slow.is_lesson(sample))
        self.assertGreater(min(found.count(True), found.count(False)), 40)

    def test_words_left_out_marked_wrongly_or_added(self):
        for machine in (M, ROW, WIDE, Complete("ab", [(1, 0), (1, 0)], [False, True])):
            sample = lesson(machine)
            for word in marked_words(sample):
                self.assertIs(is_lesson(machine, without(sample, word)), False)
                self.assertIs(is_lesson(machine, turned(sample, word)), False)
            for word in all_words(machine.letters, 3):
                if sample.mark(word) is None:
                    self.assertIs(is_lesson(machine, sample.adding(word, mark=machine.answer(word))), True)
                    self.assertIs(is_lesson(machine, sample.adding(word, mark=not machine.answer(word))), False)

    def test_one_state(self):
        for letters in ("a", "abcd"):
            machine = Complete(letters, [[0] * len(letters)], [True])
            self.assertIs(is_lesson(machine, Sample(letters)), False)
            for word in all_words(letters, 2):
                self.assertIs(is_lesson(machine, Sample(letters, [word])), True)
                self.assertIs(is_lesson(machine, Sample(letters, [], [word])), False)

    def test_four_states(self):
        machine = Complete("ab", [(1, 2), (3, 0), (1, 3), (0, 1)], [True, False, True, False])
        self.assertIsNone(least_unreduced(machine))
        words = all_words("ab", 5)[:60]
        self.assertIs(is_lesson(machine, sample_for(machine, words)), True)
        self.assertIs(is_lesson(machine, sample_for(machine, words[:7])), False)
        long = Complete("a", [(min(at + 1, 7),) for at in range(8)], [at == 7 for at in range(8)])
        self.assertIs(is_lesson(long, sample_for(long, all_words("a", 8))), True)
        self.assertIs(is_lesson(long, sample_for(long, all_words("a", 7))), False)

    def test_a_machine_that_the_sample_tells(self):
        # More machines fit a sample from which a machine is merged, but each lesson has one version.
        chance = random.Random(25)
        for _ in range(20):
            machine = random_machine(chance, "ab", 3)
            sample = told_sample(machine)
            if len(sample.prefixes) <= POINTS:
                versions = Versions(Prefixes(sample), 3)
                self.assertIs(is_lesson(machine, sample), (versions.size, versions.total) == (3, 1))

    def test_other_letters(self):
        for sample in (Sample("b", ["bb"], ["b"]), Sample("ab", ["aa"], ["a"]), Sample("abcd"), SIXTY_ONE):
            self.assertIs(is_lesson(M, sample), False)
        nine = Complete("a", [((at + 1) % 9,) for at in range(9)], [at == 0 for at in range(9)])
        self.assertIs(is_lesson(nine, Sample("ab", ["a"])), False)

    def test_by_name(self):
        self.assertIs(is_lesson(sample=Sample("a", ["aa"], ["a"]), machine=M), True)


class ErrorsTest(ErrorCase):
    def check(self, expected, machine):
        self.assert_error(expected, lesson, machine)
        for sample in (Sample("a", ["aa"], ["a"]), Sample("ab"), Sample("abcd", ["d"]), SIXTY_ONE):
            self.assert_error(expected, is_lesson, machine, sample)

    def test_not_complete(self):
        for state in range(3):
            marks = [True, False, True]
            marks[state] = None
            self.check(NotComplete(state), Machine("ab", [(1, 2), (0, 0), (2, 1)], marks))
            for letter in range(2):
                rows = [[1, 2], [0, 0], [2, 1]]
                rows[state][letter] = None
                self.check(NotComplete(state), Machine("ab", rows, [True, False, True]))
        self.check(NotComplete(1), Machine("a", [[0], [None], [None]], [True, True, None]))

    def test_not_reduced(self):
        self.check(NotReduced(1), Complete("a", [[0], [0]], [True, False]))
        self.check(NotReduced(2), Complete("ab", [[1, 1], [0, 1], [0, 1], [2, 2]], [True, False, True, False]))
        self.check(NotReduced(3), Complete("a", [[1], [2], [0], [3]], [True, True, True, False]))
        self.check(NotReduced(1), Complete("a", [[1], [0]], [True, True]))
        self.check(NotReduced(3), Complete("ab", [[1, 2], [3, 3], [0, 0], [3, 1]], [True, False, True, False]))

    def test_not_complete_comes_first(self):
        self.check(NotComplete(2), Machine("a", [[0], [0], [None]], [True, True, True]))

    def test_not_reduced_comes_before_too_large(self):
        self.check(NotReduced(9), Complete("a", [[(at + 1) % 9] for at in range(9)] + [[0]], [True] + [False] * 9))
        self.check(NotReduced(1), Complete("ab", [[0, 0]] * 5, [True] * 5))

    def test_all_machines(self):
        for letters, size in (("a", 3), ("ab", 2)):
            for machine in all_machines(letters, size):
                state = least_unreduced(machine)
                if state is not None:
                    self.check(NotReduced(state), machine)

    def test_too_many_points(self):
        machine = Complete("ab", [(1, 0), (1, 0)], [False, True])
        self.assert_error(TooLarge(POINTS), is_lesson, machine, SIXTY_ONE)
        five = Complete("ab", [(at + 1, 0) for at in range(4)] + [(4, 0)], [at == 4 for at in range(5)])
        self.assertIsNone(least_unreduced(five))
        self.assert_error(TooLarge(POINTS), is_lesson, five, SIXTY_ONE)

    def test_too_many_states_for_the_search(self):
        for letters, size in (("a", 9), ("ab", 5), ("abc", 3), ("abcd", 3)):
            rows = [[min(at + 1, size - 1)] * len(letters) for at in range(size)]
            machine = Complete(letters, rows, [at == size - 1 for at in range(size)])
            self.assertIsNone(least_unreduced(machine) if size < 6 else None)
            self.assert_error(TooLarge(CHOICES), is_lesson, machine, Sample(letters))
            self.assert_error(TooLarge(CHOICES), is_lesson, machine, Sample(letters, ["a"], [""]))
            self.assert_error(TooLarge(LESSON), lesson, machine)

    def test_too_many_machines_for_the_lesson(self):
        for letters, size in (("abcd", 2), ("ab", 3), ("a", 4)):
            rows = [[min(at + 1, size - 1)] * len(letters) for at in range(size)]
            machine = Complete(letters, rows, [at == size - 1 for at in range(size)])
            self.assert_error(TooLarge(LESSON), lesson, machine)
            self.assertIs(is_lesson(machine, Sample(letters)), False)
        many = Complete("ab", [(min(at + 1, 599), 0) for at in range(600)], [at == 599 for at in range(600)])
        self.assert_error(TooLarge(LESSON), lesson, many)


if __name__ == "__main__":
    unittest.main()
