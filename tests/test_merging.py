"""Points [30] to [32] and the interface's section wordfit/merging.py."""

import itertools
import random
import types
import unittest

from helpers import ErrorCase, all_words, order, random_sample, small_samples
from wordfit import merging
from wordfit.machines import Complete, Machine
from wordfit.merging import Merger, ScoredMerger, merged
from wordfit.points import Prefixes, fits_points, is_fit
from wordfit.samples import Sample

S = Sample("a", ["", "aa"], ["a"])
M = Complete("a", [(1,), (0,)], [True, False])


class NaiveMerger:
    """Merging as points [30] to [32] describe it, with classes as lists of words."""

    def __init__(self, sample, scored):
        self.sample = sample
        self.classes = [[word] for word in sample.prefixes]
        self.red = [""]
        self.pairs = []
        while candidates := self.candidates():
            candidate = min(candidates, key=order)
            merges = [(red, self.merge(self.classes, red, candidate)) for red in sorted(self.red, key=order)]
            merges = [(red, classes) for red, classes in merges if classes is not None]
            if scored:
                merges = sorted(merges, key=lambda pair: len(pair[1]))
            if merges:
                self.pairs.append((candidate, merges[0][0]))
                self.classes = merges[0][1]
            else:
                self.pairs.append((candidate, None))
                self.red.append(candidate)

    def candidates(self):
        inside = [word for words in self.classes for word in words if any(red in words for red in self.red)]
        return [word for word in self.sample.prefixes if word not in inside and word[:-1] in inside]

    def merge(self, classes, one, other):
        """The classes after the merge of those of two words, None if it clashes."""
        classes = [list(words) for words in classes]

        def join(word, another):
            first = next(words for words in classes if word in words)
            second = next(words for words in classes if another in words)
            if first is second:
                return False
            classes.remove(second)
            first.extend(second)
            return True
        join(one, other)
        again = True
        while again:
            again = False
            for words in list(classes):
                for letter in self.sample.letters:
                    nexts = [word + letter for word in words if word + letter in self.sample.prefixes]
                    again = any([join(nexts[0], word) for word in nexts[1:]]) or again
        marks = [{self.sample.mark(word) for word in words} - {None} for words in classes]
        return None if {True, False} in marks else classes

    def machine(self):
        states = [next(words for words in self.classes if red in words) for red in sorted(self.red, key=order)]
        rows = []
        for words in states:
            nexts = [[other for other, known in enumerate(states) if any(word + letter in known for word in words)]
                     for letter in self.sample.letters]
            rows.append([other[0] if other else None for other in nexts])
        marks = [next((self.sample.mark(word) for word in words if self.sample.mark(word) is not None), None)
                 for words in states]
        return Machine(self.sample.letters, rows, marks)


def can_be_merged(machine, one, other):
    """Whether two states can be merged, in the sense of point [30]."""
    classes = [{state} for state in range(machine.size)]

    def join(state, another):
        first = next(states for states in classes if state in states)
        second = next(states for states in classes if another in states)
        if first is not second:
            classes.remove(second)
            first |= second
            return True
        return False
    join(one, other)
    again = True
    while again:
        again = False
        for states in list(classes):
            for letter in range(len(machine.letters)):
                nexts = [machine.transitions[state][letter] for state in sorted(states)]
                nexts = [state for state in nexts if state is not None]
                again = any([join(nexts[0], state) for state in nexts[1:]]) or again
    return not any({True, False} <= {machine.marks[state] for state in states} for states in classes)


class MergerTest(ErrorCase):
    def check(self, sample):
        for cls, scored in ((Merger, False), (ScoredMerger, True)):
            expected = NaiveMerger(sample, scored)
            merger = cls(sample)
            self.assertEqual(list(merger.steps()), expected.pairs)
            self.assertEqual(merger.red, tuple(sorted(expected.red, key=order)))
            self.assertEqual(merger.result(), expected.machine())
        self.assertEqual(merged(sample), NaiveMerger(sample, False).machine())
        self.check_results(sample)

    def check_results(self, sample):
        for machine in (Merger(sample).result(), ScoredMerger(sample).result()):
            self.assertIs(type(machine), Machine)
            self.assertTrue(is_fit(machine, Prefixes(sample)))
            self.assertTrue(all(machine.answer(word) is True for word in sample.yes))
            self.assertTrue(all(machine.answer(word) is False for word in sample.no))

    def test_the_example(self):
        self.assertEqual(list(Merger(S).steps()), [("a", None), ("aa", "")])
        self.assertEqual(Merger(S).red, ("", "a"))
        self.assertEqual(Merger(S).result(), M)
        self.assertEqual(merged(S), M)

    def test_samples_without_words(self):
        for letters in ("a", "abcd"):
            for cls in (Merger, ScoredMerger):
                merger = cls(Sample(letters))
                self.assertEqual(list(merger.steps()), [])
                self.assertEqual(merger.red, ("",))
                self.assertEqual(merger.result(), Machine(letters, [[None] * len(letters)], [None]))
            self.check(Sample(letters, [""]))
            self.check(Sample(letters, [], [""]))

    def test_a_merge_that_forces_others(self):
        # By the merge of "a" and "", also "aa" and "aaa" come into this class, and "aaab" into that of "b".
        sample = Sample("ab", ["b"], ["aaaba"])
        self.assertEqual(list(Merger(sample).steps()), [("a", ""), ("b", None), ("aaaba", "")])
        self.assertEqual(Merger(sample).result(), Machine("ab", [(0, 1), (0, None)], [False, True]))
        self.check(sample)

    def test_a_merge_that_clashes_only_after_forced_merges(self):
        # "a" and "" have no marks, but by their merge "aab" and "b" are joined.
        sample = Sample("ab", ["aab"], ["b"])
        self.assertEqual(list(Merger(sample).steps()), [("a", None), ("b", ""), ("aa", "a"), ("aab", "a")])
        self.assertEqual(Merger(sample).result(), Machine("ab", [(1, 0), (1, 1)], [False, True]))
        self.check(sample)

    def test_the_least_red_prefix_that_does_not_clash(self):
        sample = Sample("ab", ["", "abb", "bab"], ["a", "ba", "bb"])
        steps = [("a", None), ("b", "a"), ("ab", None), ("ba", "ab"), ("abb", "")]
        self.assertEqual(list(Merger(sample).steps()), steps)
        self.assertEqual(Merger(sample).red, ("", "a", "ab"))
        self.assertEqual(merged(sample), Machine("ab", [(1, 1), (2, 2), (None, 0)], [True, False, False]))
        self.check(sample)

    def test_the_two_choices(self):
        # By the merge of "ab" and "a", "abb" comes into this class, too.
        sample = Sample("ab", [""], ["a", "abb"])
        self.assertEqual(list(Merger(sample).steps()), [("a", None), ("ab", ""), ("abb", "a")])
        self.assertEqual(list(ScoredMerger(sample).steps()), [("a", None), ("ab", "a")])
        self.assertEqual(Merger(sample).result(), Machine("ab", [(1, 1), (None, 0)], [True, False]))
        self.assertEqual(ScoredMerger(sample).result(), Machine("ab", [(1, None), (None, 1)], [True, False]))
        self.check(sample)
        # If both merges leave equally many classes, the least red prefix is chosen.
        sample = Sample("ab", [""], ["a", "bb"])
        self.assertEqual(list(ScoredMerger(sample).steps()), list(Merger(sample).steps()))
        chance = random.Random(6)
        different = 0
        for _ in range(300):
            sample = random_sample(chance, "abc", 4, 12)
            if list(Merger(sample).steps()) != list(ScoredMerger(sample).steps()):
                different += 1
                self.check(sample)
        self.assertGreater(different, 10)

    def test_all_small_samples(self):
        for sample in itertools.islice(small_samples(), 0, None, 5):
            self.check(sample)

    def test_random_samples(self):
        chance = random.Random(7)
        for letters, length in (("a", 9), ("ab", 5), ("abc", 3), ("abcd", 3)):
            for many in (2, 4, 7, 10):
                for _ in range(8):
                    self.check(random_sample(chance, letters, length, many))

    def test_no_two_states_of_the_result_can_be_merged(self):
        chance = random.Random(8)
        for _ in range(40):
            sample = random_sample(chance, "ab", 4, 10)
            for machine in (Merger(sample).result(), ScoredMerger(sample).result()):
                for one, other in itertools.combinations(range(machine.size), 2):
                    self.assertFalse(can_be_merged(machine, one, other))

    def test_large_samples(self):
        chance = random.Random(9)
        words = all_words("ab", 8)[:200]
        yes = [word for word in words if chance.random() < 0.5]
        self.check_results(Sample("ab", yes, [word for word in words if word not in yes]))
        words = [start + "".join(chance.choice("abcd") for _ in range(9)) for start in all_words("abcd", 3)[21:78]]
        yes = [word for word in words if chance.random() < 0.5]
        sample = Sample("abcd", yes, [word for word in words if word not in yes])
        self.assertGreater(len(sample.prefixes), 550)
        self.check_results(sample)
        self.check_results(Sample("a", ["a" * 11], ["a" * many for many in range(11)]))


class StepsTest(ErrorCase):
    def setUp(self):
        self.sample = Sample("ab", ["", "abb", "bab"], ["a", "ba", "bb"])

    def test_again(self):
        for cls in (Merger, ScoredMerger):
            merger = cls(self.sample)
            first = list(merger.steps())
            self.assertGreater(len(first), 3)
            self.assertEqual(list(merger.steps()), first)
            self.assertEqual(list(cls(self.sample).steps()), first)

    def test_an_iteration_that_was_stopped(self):
        for cls in (Merger, ScoredMerger):
            expected = list(cls(self.sample).steps())
            machine = cls(self.sample).result()
            for many in range(len(expected)):
                merger = cls(self.sample)
                part = merger.steps()
                self.assertEqual([next(part) for _ in range(many)], expected[:many])
                self.assertEqual(list(merger.steps()), expected)
                self.assertEqual(merger.result(), machine)
                self.assertEqual(list(part), expected[many:])
                self.assertEqual(list(merger.steps()), expected)

    def test_red_and_result_before_steps(self):
        for cls in (Merger, ScoredMerger):
            merger = cls(self.sample)
            red, machine = merger.red, merger.result()
            steps = list(merger.steps())
            self.assertEqual(red, tuple(["", *[candidate for candidate, partner in steps if partner is None]]))
            self.assertEqual((merger.red, merger.result()), (red, machine))
            self.assertEqual((cls(self.sample).result(), cls(self.sample).red), (machine, red))
            self.assertEqual(machine.size, len(red))
            self.assertTrue(fits_points(machine, Prefixes(self.sample)))

    def test_kinds(self):
        merger = Merger(self.sample)
        self.assertIsInstance(merger.steps(), types.GeneratorType)
        self.assertEqual({type(pair) for pair in merger.steps()}, {tuple})
        self.assertIs(type(merger.red), tuple)
        self.assertTrue(issubclass(ScoredMerger, Merger))
        with self.assertRaises(AttributeError):
            merger.red = ()

    def test_the_sample_does_not_change(self):
        before = self.sample.text
        for cls in (Merger, ScoredMerger):
            list(cls(self.sample).steps())
        merged(self.sample)
        self.assertEqual(self.sample.text, before)

    def test_by_name(self):
        self.assertEqual(Merger(sample=S).result(), M)
        self.assertEqual(ScoredMerger(sample=S).result(), M)
        self.assertEqual(merged(sample=S), M)

    def test_what_is_defined_here(self):
        for thing in (Merger, ScoredMerger, merged):
            self.assertEqual(thing.__module__, merging.__name__)
        for name in ("steps", "red", "result"):
            self.assertIn(name, vars(Merger))


if __name__ == "__main__":
    unittest.main()
