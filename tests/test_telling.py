"""Points [33] and [34] and the interface's section wordfit/telling.py."""

import itertools
import random
import unittest

from helpers import (ErrorCase, all_machines, all_words, least_unreduced, order, random_machine, turned, without,
                     words_of_states)
from wordfit import telling
from wordfit.errors import NotComplete, NotReduced, TooLarge
from wordfit.limits import TOLD
from wordfit.machines import Complete, Machine
from wordfit.merging import merged
from wordfit.samples import Sample
from wordfit.telling import is_telling, told_sample

S = Sample("a", ["", "aa"], ["a"])
M = Complete("a", [(1,), (0,)], [True, False])
FIVE = Complete("a", [(1,), (2,), (3,), (4,), (0,)], [True, False, False, False, False])


def by_least_words(machine):
    """The machine with its states numbered by their least words."""
    words = words_of_states(machine)
    states = sorted(range(machine.size), key=lambda state: order(words[state]))
    rows = [[states.index(target) for target in machine.transitions[state]] for state in states]
    return Machine(machine.letters, rows, [machine.marks[state] for state in states])


def tells(machine, sample):
    """Whether the sample tells the reduced machine, in the words of point [33]."""
    if machine.letters != sample.letters:
        return False
    marked = {word: True for word in sample.yes} | {word: False for word in sample.no}
    if any(machine.answer(word) is not mark for word, mark in marked.items()):
        return False
    least = words_of_states(machine)
    longer = [word + letter for word in least for letter in machine.letters]
    if not set(least) <= set(marked) or not set(longer) <= set(sample.prefixes):
        return False
    return all(any(u + w in marked and v + w in marked and marked[u + w] != marked[v + w]
                   for w in {word[len(start):] for start in (u, v) for word in marked if word.startswith(start)})
               for u in least for v in longer if machine.run(u) != machine.run(v))


def some_machines():
    """Reduced machines of one to four states."""
    for letters in ("a", "ab"):
        for size in (1, 2):
            yield from (machine for machine in all_machines(letters, size) if least_unreduced(machine) is None)
    for size in (3, 4):
        yield from (machine for machine in all_machines("a", size) if least_unreduced(machine) is None)
    chance = random.Random(10)
    for letters, size in itertools.product(("ab", "abc", "abcd"), (1, 2, 3, 4)):
        yield from (random_machine(chance, letters, size) for _ in range(12))


class ToldSampleTest(ErrorCase):
    def test_the_example(self):
        self.assertTrue(is_telling(M, told_sample(M)))
        self.assertEqual(merged(told_sample(M)), M)

    def test_machines_of_one_to_four_states(self):
        for machine in some_machines():
            sample = told_sample(machine)
            self.assertIs(type(sample), Sample)
            self.assertTrue(tells(machine, sample))
            self.assertIs(is_telling(machine, sample), True)
            self.assertLessEqual(sample.size, 150)
            self.assertLessEqual(len(sample.prefixes), 400)
            self.assertEqual(merged(sample), by_least_words(machine))
            self.assertEqual(told_sample(machine), sample)

    def test_machines_whose_states_are_told_apart_late(self):
        for letters in ("a", "abcd"):
            for marks in ([False, False, False, True], [True, True, True, False]):
                rows = [[min(state + 1, 3)] * len(letters) for state in range(4)]
                machine = Complete(letters, rows, marks)
                sample = told_sample(machine)
                self.assertTrue(tells(machine, sample))
                self.assertEqual(merged(sample), machine)
                self.assertLessEqual(sample.size, 150)
                self.assertLessEqual(len(sample.prefixes), 400)

    def test_states_that_are_numbered_otherwise(self):
        machine = Machine("ab", [(2, 1), (1, 0), (0, 2)], [True, False, False])
        self.assertEqual(merged(told_sample(machine)), Machine("ab", [(1, 2), (0, 1), (2, 0)], [True, False, False]))

    def test_five_states(self):
        self.assert_error(TooLarge(TOLD), told_sample, FIVE)
        self.assert_error(TooLarge(TOLD), told_sample, Machine("a", FIVE.transitions, FIVE.marks))
        four = Complete("a", [(1,), (2,), (3,), (0,)], [True, False, False, False])
        self.assertTrue(is_telling(four, told_sample(four)))

    def test_by_name(self):
        self.assertEqual(told_sample(machine=M), told_sample(M))
        self.assertIs(is_telling(sample=S, machine=M), True)

    def test_what_is_defined_here(self):
        for function in (is_telling, told_sample):
            self.assertEqual(function.__module__, telling.__name__)


class IsTellingTest(ErrorCase):
    def check(self, machine, sample):
        expected = tells(machine, sample)
        self.assertIs(is_telling(machine, sample), expected)
        if expected:
            self.assertEqual(merged(sample), by_least_words(machine))
        return expected

    def test_the_example(self):
        self.assertIs(is_telling(M, S), True)
        self.assertIs(is_telling(M, Sample("a", [""], ["a"])), False)

    def test_one_state(self):
        machine = Complete("ab", [(0, 0)], [True])
        self.assertIs(is_telling(machine, Sample("ab", ["", "a", "b"])), True)
        self.assertIs(is_telling(machine, Sample("ab", ["", "ab", "b"])), True)
        self.assertIs(is_telling(machine, Sample("ab", ["a", "b"])), False)
        self.assertIs(is_telling(machine, Sample("ab", ["", "a"])), False)
        self.assertIs(is_telling(machine, Sample("ab", [], ["", "a", "b"])), False)
        self.assertIs(is_telling(machine, Sample("ab", ["", "a", "b"], ["aa"])), False)

    def test_each_condition_alone(self):
        # The states "", "a" and "aa"; "" is told from "a" by "a".
        machine = Complete("a", [(1,), (2,), (2,)], [False, False, True])
        self.assertIs(is_telling(machine, Sample("a", ["aa", "aaa"], ["", "a"])), True)
        # Nothing tells "a" from "aaa".
        self.assertIs(is_telling(machine, Sample("a", ["aa", "aaaa"], ["", "a"])), False)
        self.assertIs(is_telling(machine, Sample("a", ["aa"], ["", "a"])), False)
        self.assertIs(is_telling(machine, Sample("a", ["aaa"], ["", "a"])), False)
        self.assertIs(is_telling(machine, Sample("a", ["aa", "aaa"], ["a"])), False)
        self.assertIs(is_telling(machine, Sample("a", ["aa", "aaa"], [""])), False)
        self.assertIs(is_telling(machine, Sample("a", ["aa"], ["", "a", "aaa"])), False)
        # "a" and "b" lead to one state, so nothing has to tell them apart.
        machine = Complete("ab", [(1, 1), (0, 1)], [False, True])
        self.assertIs(is_telling(machine, Sample("ab", ["a", "b", "ab"], ["", "aa"])), True)
        self.assertIs(is_telling(machine, Sample("ab", ["a", "bb", "ab"], ["", "aa"])), False)

    def test_larger_true_samples(self):
        chance = random.Random(11)
        for machine in some_machines():
            sample = told_sample(machine)
            words = [word for word in all_words(machine.letters, 4 if len(machine.letters) > 2 else 6)
                     if sample.mark(word) is None]
            for word in chance.sample(words, min(len(words), 20)):
                sample = sample.adding(word, mark=machine.answer(word))
            self.assertIs(is_telling(machine, sample), True)
            self.assertEqual(merged(sample), by_least_words(machine))

    def test_one_word_left_out_or_marked_wrongly(self):
        chance = random.Random(12)
        false = 0
        for letters, size in (("a", 2), ("a", 4), ("ab", 2), ("ab", 3), ("ab", 4), ("abc", 3)):
            machine = random_machine(chance, letters, size)
            sample = told_sample(machine)
            for word in sample.yes + sample.no:
                false += not self.check(machine, without(sample, word))
                self.assertIs(is_telling(machine, turned(sample, word)), False)
            for word in words_of_states(machine):
                self.assertIs(is_telling(machine, without(sample, word)), False)
        self.assertGreater(false, 20)

    def test_samples_from_which_words_are_left_out_one_after_another(self):
        chance = random.Random(13)
        for _ in range(25):
            machine = random_machine(chance, "ab", chance.choice((2, 3)))
            sample = told_sample(machine)
            words = list(sample.yes + sample.no)
            chance.shuffle(words)
            for word in words:
                if self.check(machine, without(sample, word)):
                    sample = without(sample, word)
            # Now each word is needed.
            for word in sample.yes + sample.no:
                self.assertIs(is_telling(machine, without(sample, word)), False)

    def test_random_samples(self):
        chance = random.Random(14)
        true = 0
        for _ in range(300):
            machine = random_machine(chance, "ab", chance.choice((1, 2, 2, 3)))
            words = chance.sample(all_words("ab", 3), chance.randrange(3, 16))
            true += self.check(machine, Sample("ab", [word for word in words if machine.answer(word)],
                                               [word for word in words if not machine.answer(word)]))
        self.assertGreater(true, 20)

    def test_other_letters(self):
        self.assertIs(is_telling(M, Sample("b", ["", "bb"], ["b"])), False)
        self.assertIs(is_telling(M, Sample("ab", ["", "aa"], ["a"])), False)
        whole = Complete("ab", [(0, 0)], [True])
        self.assertIs(is_telling(whole, Sample("a", ["", "a"])), False)
        self.assertIs(is_telling(whole, Sample("abc", ["", "a", "b", "c"])), False)

    def test_more_than_four_states(self):
        sample = Sample("a", ["", "aaaaa", "a" * 10], [word for word in all_words("a", 9) if len(word) % 5])
        self.assertIs(is_telling(FIVE, sample), True)
        self.assertEqual(merged(sample), FIVE)
        self.assertIs(is_telling(FIVE, sample.without("aaaa")), False)
        many = Complete("a", [[(at + 1) % 600] for at in range(600)], [True] + [False] * 599)
        self.assertIs(is_telling(many, sample), False)


class ErrorsTest(ErrorCase):
    def check(self, expected, machine):
        self.assert_error(expected, told_sample, machine)
        for sample in (S, Sample("ab"), Sample("abcd", ["d"])):
            self.assert_error(expected, is_telling, machine, sample)

    def test_not_complete(self):
        for state in range(3):
            marks = [True, False, True]
            marks[state] = None
            self.check(NotComplete(state), Machine("ab", [(1, 2), (0, 0), (2, 1)], marks))
            for letter in range(2):
                rows = [[1, 2], [0, 0], [2, 1]]
                rows[state][letter] = None
                self.check(NotComplete(state), Machine("ab", rows, [True, False, True]))
        self.check(NotComplete(1), Machine("a", [[0], [None], [None]], [True, True, None]))
        self.check(NotComplete(1), Machine("a", [[0], [0], [None]], [True, None, True]))

    def test_a_state_that_is_not_reached(self):
        self.check(NotReduced(1), Complete("a", [[0], [0]], [True, False]))
        self.check(NotReduced(2), Complete("ab", [[1, 1], [0, 1], [0, 1], [2, 2]], [True, False, True, False]))
        # State 1 is equivalent to state 0, but state 3 is not reached.
        self.check(NotReduced(3), Complete("a", [[1], [2], [0], [3]], [True, True, True, False]))

    def test_a_state_that_is_equivalent_to_a_lesser_one(self):
        self.check(NotReduced(1), Complete("a", [[1], [0]], [True, True]))
        self.check(NotReduced(3), Complete("ab", [[1, 2], [3, 3], [0, 0], [3, 1]], [True, False, True, False]))
        self.check(NotReduced(2), Complete("ab", [[1, 2], [0, 3], [0, 3], [3, 3]], [True, False, False, True]))

    def test_not_complete_comes_first(self):
        self.check(NotComplete(2), Machine("a", [[0], [0], [None]], [True, True, True]))
        self.check(NotComplete(4), Machine("a", [[0]] * 5, [True] * 4 + [None]))

    def test_not_reduced_comes_before_too_large(self):
        self.check(NotReduced(5), Complete("a", [*FIVE.transitions, (0,)], [*FIVE.marks, True]))
        self.check(NotReduced(3), Complete("a", [(at + 1,) for at in range(5)] + [(0,)], [True, False, False] * 2))

    def test_all_machines(self):
        for letters, size in (("a", 3), ("ab", 2), ("a", 4)):
            for machine in all_machines(letters, size):
                state = least_unreduced(machine)
                if state is not None:
                    self.assert_error(NotReduced(state), is_telling, machine, S)
                    self.assert_error(NotReduced(state), told_sample, machine)

    def test_random_machines(self):
        chance = random.Random(15)
        for _ in range(300):
            size = chance.randrange(3, 7)
            machine = Complete("ab", [[chance.randrange(size) for _ in "ab"] for _ in range(size)],
                               [chance.random() < 0.3 for _ in range(size)])
            state = least_unreduced(machine)
            if state is None:
                self.assertIs(is_telling(machine, Sample("ab")), False)
            else:
                self.assert_error(NotReduced(state), is_telling, machine, S)


if __name__ == "__main__":
    unittest.main()
