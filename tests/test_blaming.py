"""Points [36] to [38] and the interface's section wordfit/blaming.py."""

import itertools
import random
import unittest

from helpers import (NO_SIZES, ODD_VALUES, SIXTY, SIXTY_ONE, ErrorCase, all_words, expected_size, marked_words,
                     sample_with, small_samples, random_sample, turned, without)
from wordfit import blaming
from wordfit.blaming import blame, check_blame, faults
from wordfit.errors import OutOfRange, TooLarge
from wordfit.limits import CHOICES, FAULTS, POINTS
from wordfit.machines import Complete
from wordfit.points import Prefixes
from wordfit.samples import Sample
from wordfit.search import least_size
from wordfit.trees import case_tree, check_tree

S = Sample("a", ["", "aa"], ["a"])
CORE = Sample("a", [""], ["a"])
THREE = Sample("ab", ["aa", "b"], ["", "a", "ba", "bb"])
# Any word that is marked True and any word that is marked False are a core.
TWO = Sample("ab", ["a", "ab"], ["", "b"])
FOUR = Sample("ab", ["aaa"], ["", "a", "aa"])


def size_of(sample):
    return expected_size(Prefixes(sample), 3)


def expected_core(sample):
    """The words that are left after leaving out one after another, the last ones first."""
    words = marked_words(sample)
    for word in reversed(marked_words(sample)):
        rest = [known for known in words if known != word]
        if size_of(sample_with(sample, rest)) == size_of(sample):
            words = rest
    return sample_with(sample, words)


def is_core(core, sample):
    """Whether this is a core in the words of point [36]."""
    if any(core.mark(word) is not sample.mark(word) for word in marked_words(core)):
        return False
    return size_of(core) == size_of(sample) and all(
        size_of(without(core, word)) < size_of(sample) for word in marked_words(core))


def samples():
    """Samples over one and two letters of least sizes 1 to 3."""
    chance = random.Random(20)
    found = [*small_samples("a", 3), *itertools.islice(small_samples(), 0, None, 31)]
    for letters, length in (("a", 5), ("ab", 3), ("ab", 3), ("ab", 4)):
        found += [random_sample(chance, letters, length, 6) for _ in range(12)]
    return [sample for sample in found if size_of(sample) is not None]


def shown(value):
    """A value that tells whether any value has changed."""
    if isinstance(value, Sample):
        return value.text
    if isinstance(value, (list, tuple)):
        return (str(type(value)), [shown(item) for item in value])
    if isinstance(value, dict):
        return [(shown(key), shown(item)) for key, item in value.items()]
    return repr(value)


class BlameTest(ErrorCase):
    def check(self, sample, most):
        core, tree = blame(sample, most)
        expected = expected_core(sample)
        size = size_of(sample)
        self.assertEqual(core, expected)
        self.assertIs(type(core), Sample)
        self.assertTrue(is_core(core, sample))
        self.assertEqual(tree, None if size == 1 else case_tree(Prefixes(expected), size - 1))
        self.assertIs(check_blame(sample, most, (core, tree)), True)
        # A core has no lesser one.
        self.assertEqual(blame(core, most), (core, tree))
        return size

    def test_the_example(self):
        self.assertEqual(blame(S, 3), (CORE, [("next", (1,)), ("clash", "", "a")]))
        self.assertIs(type(blame(S, 3)), tuple)

    def test_small_samples(self):
        sizes = [self.check(sample, 3) for sample in samples()]
        self.assertGreater(min(sizes.count(size) for size in (1, 2, 3)), 10)

    def test_no_words_are_left_for_one_state(self):
        for sample in (Sample("a"), Sample("abcd"), Sample("ab", ["", "ab"]), Sample("ab", [], ["b"]), SIXTY):
            for most in (1, 2):
                self.assertEqual(blame(sample, most), (Sample(sample.letters), None))

    def test_the_words_are_left_out_from_the_last_one_on(self):
        self.assertEqual(blame(TWO, 4)[0], Sample("ab", ["a"], [""]))
        self.assertEqual(blame(Sample("ab", ["", "b"], ["a", "ab"]), 2)[0], Sample("ab", [""], ["a"]))
        self.assertEqual(blame(Sample("ab", ["ba"], ["aa", "ab", "b"]), 3)[0], Sample("ab", ["ba"], ["b"]))

    def test_more_letters_and_sixty_prefixes(self):
        self.check(Sample("abcd", ["a", "cd"], ["b", "", "dd"]), 2)
        self.check(Sample("abc", ["a", "cc"], ["b", "ab", "ca"]), 2)
        machine = Complete("ab", [(1, 2), (3, 0), (1, 3), (0, 1)], [True, False, True, False])
        words = all_words("ab", 5)[:60]
        sample = Sample("ab", [word for word in words if machine.answer(word)],
                        [word for word in words if not machine.answer(word)])
        core, tree = blame(sample, 4)
        self.assertEqual((least_size(Prefixes(sample), 4), least_size(Prefixes(core), 4)), (4, 4))
        for word in marked_words(core):
            self.assertEqual(least_size(Prefixes(without(core, word)), 3) is not None, True)
        self.assertTrue(check_tree(Prefixes(core), 3, tree))
        self.assertIs(check_blame(sample, 4, (core, tree)), True)
        long = Sample("a", ["a" * 7], ["a" * many for many in range(7)])
        self.assertEqual(blame(long, 8), (long, case_tree(Prefixes(long), 7)))

    def test_each_call_returns_new_lists(self):
        first = blame(THREE, 3)
        first[1].clear()
        self.assertEqual(blame(THREE, 3)[1], case_tree(Prefixes(blame(THREE, 3)[0]), 2))

    def test_the_sample_does_not_change(self):
        before = THREE.text
        blame(THREE, 3)
        check_blame(THREE, 3, blame(THREE, 3))
        faults(THREE, 1)
        self.assertEqual(THREE.text, before)

    def test_by_name(self):
        self.assertEqual(blame(most=3, sample=S), blame(S, 3))
        self.assertIs(check_blame(value=blame(S, 3), most=3, sample=S), True)
        self.assertEqual(faults(size=1, sample=S), ("a",))

    def test_what_is_defined_here(self):
        for function in (blame, check_blame, faults):
            self.assertEqual(function.__module__, blaming.__name__)


class CheckBlameTest(ErrorCase):
    def check(self, expected, sample, value, most=3):
        before = shown(value)
        self.assertIs(check_blame(sample, most, value), expected)
        self.assertEqual(shown(value), before)

    def test_any_core(self):
        for yes, no in ((["a"], [""]), (["a"], ["b"]), (["ab"], [""]), (["ab"], ["b"])):
            core = Sample("ab", yes, no)
            self.check(True, TWO, (core, case_tree(Prefixes(core), 1)))
        # The tree of another core.
        self.check(False, TWO, (Sample("ab", ["a"], ["b"]), case_tree(Prefixes(Sample("ab", ["a"], [""])), 1)))

    def test_all_parts_of_samples(self):
        found = 0
        for sample in (S, THREE, TWO, Sample("ab", ["b", "aa"], ["a", "bb"]),
                       Sample("ab", ["", "aa"], ["a", "bb", "ab"])):
            size = size_of(sample)
            words = marked_words(sample)
            for many in range(len(words) + 1):
                for some in itertools.combinations(words, many):
                    core = sample_with(sample, some)
                    found += is_core(core, sample)
                    self.check(is_core(core, sample), sample, (core, case_tree(Prefixes(core), size - 1)))
        self.assertGreater(found, 8)

    def test_words_more_fewer_or_with_another_mark(self):
        for sample in (S, THREE, TWO):
            core, tree = blame(sample, 3)
            for word in all_words(sample.letters, 3):
                if core.mark(word) is None:
                    for mark in (True, False):
                        self.check(False, sample, (core.adding(word, mark=mark), tree))
                else:
                    self.check(False, sample, (without(core, word), tree))
                    self.check(False, sample, (turned(core, word), tree))
                    other = turned(core, word)
                    self.check(False, sample, (other, case_tree(Prefixes(other), size_of(sample) - 1)))
        # A core of another sample, with its tree.
        other = Sample("ab", [""], ["a"])
        self.check(False, TWO, (other, case_tree(Prefixes(other), 1)))
        other = Sample("ab", ["aa"], [""])
        self.check(False, TWO, (other, case_tree(Prefixes(other), 1)))

    def test_other_letters(self):
        for letters in ("ab", "b", "abcd"):
            core = Sample(letters, [""], [letters[0]])
            self.check(False, S, (core, case_tree(Prefixes(core), 1)))
        self.check(False, Sample("ab"), (Sample("a"), None))

    def test_changed_trees(self):
        for sample in (S, THREE, TWO):
            core, tree = blame(sample, 3)
            self.check(True, sample, (core, list(tree)))
            for wrong in (tuple(tree), tree[:-1], tree[1:], tree + tree[-1:], [], tree[::-1],
                          [list(tree[0]), *tree[1:]], [("fit",)], tree[:-1] + [("fit",)], {0: tree}, (tree,), [tree]):
                self.check(False, sample, (core, wrong))
            for at, node in enumerate(tree):
                if node[0] == "clash":
                    self.check(False, sample, (core, [*tree[:at], ("clash", node[2], node[1]), *tree[at + 1:]]))
                    self.check(False, sample, (core, [*tree[:at], ("clash", node[1], core), *tree[at + 1:]]))
                    self.check(False, sample, (core, [*tree[:at], core, *tree[at + 1:]]))
                self.check(False, sample, (core, [*tree[:at], [*node], *tree[at + 1:]]))
        # The tree for the least size itself has a fit.
        self.check(False, S, (CORE, case_tree(Prefixes(CORE), 2)))
        self.check(False, THREE, (blame(THREE, 3)[0], case_tree(Prefixes(blame(THREE, 3)[0]), 1)))

    def test_none_and_a_tree_exchanged(self):
        for sample in (S, THREE, TWO):
            self.check(False, sample, (blame(sample, 3)[0], None))
        self.check(True, Sample("ab", ["a"]), (Sample("ab"), None))
        for tree in ([], [("fit",)], case_tree(Prefixes(CORE), 1), False, 0, "", ()):
            self.check(False, Sample("a", ["a"]), (Sample("a"), tree))
        self.check(False, Sample("ab", ["a"]), (Sample("ab", ["a"]), None))
        self.check(False, Sample("ab", ["a"]), (Sample("ab", ["b"]), None))

    def test_other_values(self):
        core, tree = blame(S, 3)
        self.check(False, S, (S, None))
        self.check(False, S, (S, case_tree(Prefixes(S), 1)))
        self.check(False, S, (CORE, [("next", [1]), ["clash", "", "a"]], {"a": [CORE]}))
        for value in ([core, tree], (tree, core), (core,), (core, tree, None), (), [], core, tree, {core.text: tree},
                      ((core, tree),), [(core, tree)], (core, (core, tree)), (core.text, tree), (CORE.yes, tree),
                      ("a", [""], tree), None, True, False, 0, 1, 10 ** 60, "", "core"):
            self.check(False, S, value)
        for value in ODD_VALUES:
            self.check(False, S, value)
            self.check(False, S, (value, tree))
            self.check(False, S, (core, value))
            self.check(False, Sample("a"), (value, None))


class FaultsTest(ErrorCase):
    def expected(self, sample, size):
        words = marked_words(sample)
        for many in range(len(words) + 1):
            for some in itertools.combinations(range(len(words)), many):
                rest = sample_with(sample, [word for at, word in enumerate(words) if at not in some])
                if expected_size(Prefixes(rest), size) is not None:
                    return tuple(words[at] for at in some)
        raise AssertionError

    def test_the_examples(self):
        self.assertEqual(faults(S, 1), ("a",))
        self.assertEqual(faults(S, 2), ())

    def test_compared_with_a_slow_search(self):
        chance = random.Random(21)
        lengths = set()
        for letters, length, many in (("a", 4, 4), ("a", 6, 6), ("ab", 2, 5), ("ab", 3, 6), ("abc", 2, 5)):
            for _ in range(10):
                sample = random_sample(chance, letters, length, many)
                for size in (1, 2):
                    found = faults(sample, size)
                    self.assertEqual(found, self.expected(sample, size))
                    self.assertIs(type(found), tuple)
                    lengths.add(len(found))
        self.assertEqual(lengths, {0, 1, 2, 3})

    def test_three_states(self):
        chance = random.Random(22)
        for _ in range(5):
            sample = random_sample(chance, "ab", 3, 7)
            self.assertEqual(faults(sample, 3), self.expected(sample, 3))
        sample = Sample("a", ["", "aa"], ["a", "aaa", "aaaa"])
        self.assertEqual([faults(sample, size) for size in (1, 2, 3, 4)],
                         [self.expected(sample, size) for size in (1, 2, 3, 4)])

    def test_the_first_of_several_sets(self):
        self.assertEqual(faults(Sample("ab", ["a", "b"], ["", "aa"]), 1), ("", "aa"))
        self.assertEqual(faults(Sample("ab", ["", "aa"], ["a", "b"]), 1), ("", "aa"))
        self.assertEqual(faults(Sample("ab", ["b"], ["a"]), 1), ("a",))

    def test_no_words(self):
        for letters in ("a", "abcd"):
            self.assertEqual(faults(Sample(letters), 1), ())

    def test_eight_and_nine_words(self):
        words = all_words("a", 8)
        eight = Sample("a", words[:4], words[4:8])
        self.assertEqual(faults(eight, 1), tuple(words[:4]))
        self.assertEqual(faults(Sample("a", words[:7:2], words[1:8:2]), 1), tuple(words[:7:2]))
        self.assertEqual(faults(eight, 8), ())
        nine = Sample("a", words[:4], words[4:9])
        self.assertEqual(nine.size, 9)
        self.assert_error(TooLarge(FAULTS), faults, nine, 2)
        self.assert_error(TooLarge(FAULTS), faults, Sample("ab", all_words("ab", 3)[:9]), 1)

    def test_eight_long_words(self):
        words = ["".join(row) + "ab" for row in itertools.product("ab", repeat=3)]
        sample = Sample("ab", words[::3], [word for word in words if word not in words[::3]])
        self.assertEqual(faults(sample, 1), tuple(words[::3]))
        self.assertEqual(faults(sample, 2), self.expected(sample, 2))
        self.assertEqual(faults(sample, 4), ())


class ErrorsTest(ErrorCase):
    def calls(self, sample, number):
        yield blame, (sample, number)
        for value in (None, blame(S, 3), (S, None), "a"):
            yield check_blame, (sample, number, value)
        yield faults, (sample, number)

    def test_numbers_that_are_no_sizes(self):
        for sample in (S, THREE, Sample("abcd")):
            for number in NO_SIZES:
                for function, values in self.calls(sample, number):
                    self.assert_error(OutOfRange(number), function, *values)
        # The number comes before the points and the letters.
        for number in NO_SIZES:
            self.assert_error(OutOfRange(number), blame, SIXTY_ONE, number)
            self.assert_error(OutOfRange(number), check_blame, SIXTY_ONE, number, None)

    def test_too_many_points(self):
        self.assertEqual((len(SIXTY.prefixes), len(SIXTY_ONE.prefixes)), (60, 61))
        for most in (1, 4, 5, 10 ** 60):
            self.assert_error(TooLarge(POINTS), blame, SIXTY_ONE, most)
            self.assert_error(TooLarge(POINTS), check_blame, SIXTY_ONE, most, (Sample("ab"), None))
        few = Sample("ab", [first + "abbabbab" for first in all_words("ab", 3)[7:]])
        self.assertEqual((few.size, len(few.prefixes) > 60), (8, True))
        for size in (1, 4, 5, 10 ** 60):
            self.assert_error(TooLarge(POINTS), faults, few, size)

    def test_too_many_choices(self):
        for letters, most in (("a", 9), ("ab", 5), ("abc", 3), ("abcd", 3), ("ab", 10 ** 60)):
            for function, values in self.calls(Sample(letters, ["a"]), most):
                self.assert_error(TooLarge(CHOICES), function, *values)
        self.assertEqual(blame(Sample("abc", ["a"]), 2)[1], None)

    def test_a_least_size_that_is_greater(self):
        for sample, most in ((S, 1), (THREE, 2), (FOUR, 3), (FOUR, 1)):
            self.assert_error(TooLarge(most), blame, sample, most)
            for value in (None, (sample, None), blame(sample, 4)):
                self.assert_error(TooLarge(most), check_blame, sample, most, value)
        self.assertIs(check_blame(FOUR, 4, blame(FOUR, 4)), True)

    def test_too_many_words_come_first(self):
        nine = Sample("ab", all_words("ab", 3)[:9])
        for size in (*NO_SIZES, 1, 5):
            self.assert_error(TooLarge(FAULTS), faults, nine, size)
        self.assert_error(TooLarge(FAULTS), faults, SIXTY_ONE, 0)


if __name__ == "__main__":
    unittest.main()
