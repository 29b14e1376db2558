"""Point [59] and the interface's section wordfit/pairs.py."""

import itertools
import unittest

from helpers import OTHER_TWENTY_ONE, TWENTY, TWENTY_ONE, ErrorCase, all_words, machines_to_compare, order
from wordfit import pairs
from wordfit.errors import InvalidLetters, NotApart, TooLarge
from wordfit.limits import COMPARED
from wordfit.machines import Complete, Machine
from wordfit.pairs import Pairs
from wordfit.points import Points, Prefixes, fits_points
from wordfit.samples import Sample

A = Machine("ab", ((1, None), (None, None)), (None, True))
B = Machine("ab", ((None, 1), (None, None)), (None, True))
MACHINES = {"a": machines_to_compare("a", 4), "ab": machines_to_compare("ab", 4), "abc": machines_to_compare("abc", 3)}


def some_pairs():
    """Pairs of machines, and the greatest length of the words that lead to all of their pairs."""
    for letters, step in (("a", 3), ("ab", 7), ("abc", 11)):
        yield from itertools.islice(itertools.product(MACHINES[letters], repeat=2), 0, None, step)


def both_true(one, other, length):
    """The least word of at most this length that both machines answer with True, None if there is none."""
    return next((word for word in all_words(one.letters, length) if one.answer(word) and other.answer(word)), None)


class SlowPairs:
    """The pairs of two machines, by going through words; one that leads where a lesser one leads is not prolonged."""

    def __init__(self, one, other):
        self.one, self.other = one, other
        words = {}
        latest = [""]
        while latest:
            for word in latest:
                words.setdefault((one.run(word), other.run(word)), word)
            latest = [word + letter for word in latest for letter in one.letters if words[self.pair(word)] == word]
        self.words = words
        common = [word for word in words.values() if self.marks(word) == (True, True)]
        self.common = min(common, key=order, default=None)
        kept = [word for word in words.values() if word == "" or self.leads(word, set())]
        self.kept = sorted(kept, key=order)

    def pair(self, word):
        return (self.one.run(word), self.other.run(word))

    def marks(self, word):
        return (self.one.answer(word), self.other.answer(word))

    def leads(self, word, seen):
        """Whether some word leads from the pair of a word to a pair with a mark."""
        if self.pair(word) in seen:
            return False
        seen.add(self.pair(word))
        return True in self.marks(word) or any(self.leads(self.words[self.pair(word + letter)], seen)
                                               for letter in self.one.letters)

    def points(self):
        places = {self.pair(word): at for at, word in enumerate(self.kept)}
        rows = [[places.get(self.pair(word + letter)) for letter in self.one.letters] for word in self.kept]
        marks = [True if self.marks(word)[0] else False if self.marks(word)[1] else None for word in self.kept]
        return Points(self.one.letters, rows, marks)


class PairsTest(ErrorCase):
    def check(self, one, other):
        slow = SlowPairs(one, other)
        if slow.common is not None:
            self.assert_error(NotApart(slow.common), Pairs, one, other)
            return None
        made = Pairs(one, other)
        self.assertEqual(made.words, tuple(slow.kept))
        self.assertEqual(made.pairs, tuple(slow.pair(word) for word in slow.kept))
        expected = slow.points()
        self.assertEqual((made.letters, made.nexts, made.marks, made.size),
                         (expected.letters, expected.nexts, expected.marks, expected.size))
        self.assertTrue(made == expected)
        self.assertTrue(expected == made)
        return made

    def test_the_example(self):
        made = Pairs(A, B)
        self.assertEqual([made.pairs, made.words, made.marks],
                         [((0, 0), (1, None), (None, 1)), ("", "a", "b"), (None, True, False)])
        self.assertEqual(made.nexts, ((1, 2), (None, None), (None, None)))

    def test_machines_of_one_to_four_states(self):
        found = [self.check(one, other) for one, other in some_pairs()]
        sizes = [made.size for made in found if made is not None]
        self.assertGreater(found.count(None), 50)
        self.assertGreater(len(sizes), 50)
        self.assertGreater(max(sizes), 5)

    def test_all_small_machines_and_all_short_words(self):
        machines = [Machine("a", rows, marks) for rows in itertools.product(((None,), (0,), (1,)), repeat=2)
                    for marks in itertools.product((True, None), repeat=2)]
        for one, other in itertools.product(machines, repeat=2):
            word = both_true(one, other, 9)
            if word is not None:
                self.assert_error(NotApart(word), Pairs, one, other)
                continue
            made = self.check(one, other)
            for number, (pair, least) in enumerate(zip(made.pairs, made.words)):
                same = [word for word in all_words("a", 9) if (one.run(word), other.run(word)) == pair]
                self.assertEqual(same[0], least)
                further = [least + end for end in all_words("a", 9)]
                self.assertTrue(number == 0 or any(one.answer(word) or other.answer(word) for word in further))

    def test_machines_without_any_mark(self):
        for letters in ("a", "abcd"):
            row = [0] * len(letters)
            for mark, another in ((None, None), (False, False), (None, False)):
                made = Pairs(Machine(letters, [row], [mark]), Machine(letters, [row], [another]))
                # The start leads to itself.
                self.assertEqual((made.nexts, made.marks), (((0,) * len(letters),), (None,)))
                self.assertEqual((made.pairs, made.words), (((0, 0),), ("",)))
        made = Pairs(Machine("a", [[1], [None]], [None, False]), Machine("a", [[None]], [None]))
        self.assertEqual((made.pairs, made.nexts, made.marks), (((0, 0),), ((None,),), (None,)))

    def test_false_is_no_mark_of_a_pair(self):
        made = Pairs(Machine("a", [[1], [None]], [True, False]), Machine("a", [[1], [None]], [False, True]))
        self.assertEqual((made.pairs, made.marks), (((0, 0), (1, 1)), (True, False)))

    def test_states_that_lead_to_no_mark(self):
        one = Machine("ab", [(1, 2), (1, 1), (2, 2)], [None, None, True])
        other = Machine("ab", [(0, None)], [None])
        made = self.check(one, other)
        self.assertEqual(made.pairs, ((0, 0), (2, None)))
        self.assertEqual(made.nexts, ((None, 1), (1, 1)))

    def test_a_common_word(self):
        self.assert_error(NotApart(""), Pairs, Machine("a", [[0]], [True]), Machine("a", [[0]], [True]))
        self.assert_error(NotApart("a"), Pairs, A, A)
        self.assert_error(NotApart("b"), Pairs, Machine("ab", [(0, 1), (1, 1)], [None, True]), B)
        six, four = [Machine("a", [[(at + 1) % many] for at in range(many)], [at == 1 for at in range(many)])
                     for many in (6, 4)]
        self.assert_error(NotApart("a"), Pairs, six, four)
        odd = Machine("a", [[(at + 1) % 4] for at in range(4)], [at == 3 for at in range(4)])
        self.assert_error(NotApart("a" * 7), Pairs, six, odd)
        self.assertEqual(Pairs(six, Complete("a", [[1], [0]], [True, False])).size, 6)

    def test_twenty_states(self):
        later = Machine("ab", TWENTY.transitions, [at == 1 for at in range(20)])
        made = Pairs(TWENTY, later)
        self.assertEqual((made.size, made.marks), (20, (True, False) + (None,) * 18))
        other = Machine("ab", [((at + 1) % 19,) * 2 for at in range(19)], [at == 18 for at in range(19)])
        self.assert_error(NotApart("a" * 360), Pairs, TWENTY, other)
        left = Machine("ab", [(min(at + 1, 19), None) for at in range(20)], [at == 5 for at in range(20)])
        self.check(left, TWENTY)

    def test_equal_to_points_with_the_same_parts(self):
        made = Pairs(A, B)
        same = Points("ab", [(1, 2), (None, None), (None, None)], [None, True, False])
        self.assertTrue(made == same)
        self.assertTrue(same == made)
        self.assertTrue(made == Prefixes(Sample("ab", ["a"], ["b"])))
        self.assertTrue(Prefixes(Sample("ab", ["a"], ["b"])) == made)
        self.assertFalse(made == Pairs(B, A))
        for other in (Points("ab", [(1, 2), (None, None), (None, None)], [None, False, True]),
                      Points("ac", [(1, 2), (None, None), (None, None)], [None, True, False]), None, 1, A, made.pairs):
            self.assertFalse(made == other)
            self.assertFalse(other == made)

    def test_kinds(self):
        made = Pairs(A, B)
        self.assertTrue(issubclass(Pairs, Points))
        for name in ("pairs", "words", "nexts", "marks", "letters", "size"):
            with self.assertRaises(AttributeError):
                setattr(made, name, ())
        self.assertIs(type(made.pairs), tuple)
        self.assertEqual({type(pair) for pair in made.pairs}, {tuple})
        self.assertIs(type(made.words), tuple)
        self.assertTrue(fits_points(Machine("ab", [(0, 1), (None, None)], [True, False]), made))

    def test_by_name(self):
        self.assertEqual(Pairs(other=B, one=A).words, Pairs(A, B).words)

    def test_what_is_defined_here(self):
        self.assertEqual(Pairs.__module__, pairs.__name__)
        for name in ("pairs", "words"):
            self.assertIn(name, vars(Pairs))


class ErrorsTest(ErrorCase):
    def test_too_many_states(self):
        self.assert_error(TooLarge(COMPARED), Pairs, TWENTY_ONE, A)
        self.assert_error(TooLarge(COMPARED), Pairs, A, TWENTY_ONE)
        # Both answer the empty word with True.
        self.assert_error(TooLarge(COMPARED), Pairs, TWENTY_ONE, TWENTY)
        self.assert_error(NotApart(""), Pairs, TWENTY, TWENTY)

    def test_different_letters_come_first(self):
        self.assert_error(InvalidLetters(), Pairs, TWENTY_ONE, OTHER_TWENTY_ONE)
        self.assert_error(InvalidLetters(), Pairs, OTHER_TWENTY_ONE, TWENTY)
        self.assert_error(InvalidLetters(), Pairs, A, Machine("abc", [[0] * 3], [True]))


if __name__ == "__main__":
    unittest.main()
