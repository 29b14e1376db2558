"""Point [10] and the interface's section wordfit/words.py."""

import inspect
import itertools
import unittest

from wordfit import words
from wordfit.words import word_order


class WordOrderTest(unittest.TestCase):
    def test_no_words(self):
        self.assertEqual(word_order([]), [])
        self.assertEqual(word_order(()), [])

    def test_one_word(self):
        self.assertEqual(word_order(["ab"]), ["ab"])

    def test_the_empty_word_comes_first(self):
        self.assertEqual(word_order([""]), [""])
        self.assertEqual(word_order(["a", "", "aa"]), ["", "a", "aa"])

    def test_a_shorter_word_comes_first(self):
        self.assertEqual(word_order(["aa", "b"]), ["b", "aa"])
        self.assertEqual(word_order(["aaa", "zz", "aa", "z"]), ["z", "aa", "zz", "aaa"])

    def test_words_of_equal_length_are_in_alphabetical_order(self):
        self.assertEqual(word_order(["bb", "ba", "ab", "aa"]), ["aa", "ab", "ba", "bb"])
        self.assertEqual(word_order(["z", "m", "a"]), ["a", "m", "z"])
        self.assertEqual(word_order(["abz", "aca", "aba"]), ["aba", "abz", "aca"])

    def test_each_word_as_often_as_it_occurs(self):
        self.assertEqual(word_order(["b", "a", "b", "", "a", "b", ""]), ["", "", "a", "a", "b", "b", "b"])
        self.assertEqual(word_order(["aa", "aa"]), ["aa", "aa"])

    def test_the_order_in_which_words_are_passed_does_not_matter(self):
        expected = ["", "a", "b", "aa", "ab", "ba"]
        for passed in itertools.permutations(expected):
            self.assertEqual(word_order(list(passed)), expected)

    def test_all_words_over_three_letters(self):
        expected = ["".join(row) for length in range(5) for row in itertools.product("abc", repeat=length)]
        self.assertEqual(word_order(sorted(expected)), expected)
        self.assertEqual(word_order(expected[::-1]), expected)

    def test_words_longer_than_those_of_a_sample(self):
        self.assertEqual(word_order(["a" * 40, "b" * 39, "q" * 13]), ["q" * 13, "b" * 39, "a" * 40])

    def test_a_tuple_gives_a_list(self):
        result = word_order(("aa", "b", ""))
        self.assertEqual(result, ["", "b", "aa"])
        self.assertIs(type(result), list)

    def test_the_argument_does_not_change(self):
        passed = ["aa", "b", "", "b"]
        word_order(passed)
        self.assertEqual(passed, ["aa", "b", "", "b"])

    def test_the_result_is_a_new_list(self):
        for passed in ([], ["a"], ["", "b", "aa"]):
            with self.subTest(words=passed):
                kept = list(passed)
                first = word_order(passed)
                self.assertIsNot(first, passed)
                self.assertIsNot(word_order(passed), first)
                first.append("zzz")
                self.assertEqual(passed, kept)
                self.assertEqual(word_order(passed), kept)

    def test_the_argument_passed_by_name(self):
        self.assertEqual(word_order(words=["aa", "b"]), ["b", "aa"])
        self.assertEqual(word_order(words=("aa", "b")), ["b", "aa"])

    def test_there_is_no_other_argument(self):
        self.assertEqual(list(inspect.signature(word_order).parameters), ["words"])

    def test_it_is_defined_in_its_file(self):
        self.assertEqual(word_order.__module__, words.__name__)


if __name__ == "__main__":
    unittest.main()
