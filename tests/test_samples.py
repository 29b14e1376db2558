"""Points [10] and [11] and the interface's section wordfit/samples.py. Their texts are tested in test_texts.py."""

import copy
import unittest

from helpers import NO_LETTERS, ODD_VALUES, ErrorCase, all_words
from wordfit import samples
from wordfit.errors import DuplicateWord, InvalidLetters, InvalidSample, InvalidWord, TooLarge, UnknownWord
from wordfit.limits import PREFIXES, WORDS
from wordfit.samples import Sample

# Beside the values that are no words over "ab" at all.
NO_WORDS = (*ODD_VALUES, None, True, False, [], (), ["a"], ("a", "b"), "abc", "a" * 13, "ab" * 7, "ba\xe4")
# Beside the values that are no sequences; the empty sequences are fine.
NO_SEQUENCES = (None, True, False, 0, 1, "", "a", "ab", "sample", {}, {"a": True})


def parts(sample):
    return (sample.letters, sample.yes, sample.no, sample.prefixes, sample.size)


def long_words(many):
    """So many different words with twelve letters, at most 256."""
    return [f"{number:08b}".replace("0", "a").replace("1", "b") + "aaaa" for number in range(many)]


def words_with_prefixes(many):
    """Words over "abcd", fewer than 200, with exactly so many prefixes."""
    words = []
    found = {""}
    for start in all_words("abcd", 3)[21:]:
        word = start + "a" * 9
        new = {word[:length] for length in range(13)} - found
        left = many - len(found)
        words.append(word[:12 - max(0, len(new) - left)])
        found |= {words[-1][:length] for length in range(13)}
        if len(found) == many:
            return words
    raise AssertionError(many)


class SampleTest(ErrorCase):
    def test_no_words(self):
        for sample in (Sample("ab"), Sample("ab", [], ()), Sample("ab", (), [])):
            self.assertEqual(parts(sample), ("ab", (), (), ("",), 0))
            self.assertIsNone(sample.mark(""))

    def test_the_empty_word(self):
        self.assertEqual(parts(Sample("b", [""])), ("b", ("",), (), ("",), 1))
        self.assertEqual(parts(Sample("b", (), ("",))), ("b", (), ("",), ("",), 1))
        self.assertIs(Sample("b", [""]).mark(""), True)
        self.assertIs(Sample("b", [], [""]).mark(""), False)

    def test_words_are_in_word_order(self):
        sample = Sample("ab", ["ba", "b", "", "aab"], ["bb", "a", "ab", "aaa"])
        self.assertEqual(sample.yes, ("", "b", "ba", "aab"))
        self.assertEqual(sample.no, ("a", "ab", "bb", "aaa"))
        self.assertEqual(sample.prefixes, ("", "a", "b", "aa", "ab", "ba", "bb", "aaa", "aab"))
        self.assertEqual(sample.size, 8)

    def test_prefixes_are_all_beginnings(self):
        self.assertEqual(Sample("abc", ["cab"], ["bc"]).prefixes, ("", "b", "c", "bc", "ca", "cab"))
        self.assertEqual(Sample("z", ["zzz"]).prefixes, ("", "z", "zz", "zzz"))

    def test_a_word_twice_in_one_sequence(self):
        sample = Sample("ab", ["b", "b", "a", "b"], ["", ""])
        self.assertEqual(parts(sample), ("ab", ("a", "b"), ("",), ("", "a", "b"), 3))

    def test_all_letters_that_there_are(self):
        for letters in ("a", "z", "az", "mno", "abcd", "wxyz"):
            self.assertEqual(Sample(letters, [letters]).letters, letters)
            self.assertEqual(Sample(letters, [letters]).yes, (letters,))

    def test_kinds_of_the_properties(self):
        sample = Sample("ab", ["a"], ["b"])
        self.assertEqual([type(part) for part in parts(sample)], [str, tuple, tuple, tuple, int])

    def test_arguments_by_name(self):
        expected = Sample("ab", ["a"], ["b"])
        self.assertEqual(Sample(letters="ab", yes=["a"], no=["b"]), expected)
        self.assertEqual(Sample("ab", no=["b"], yes=("a",)), expected)
        self.assertEqual(Sample("ab", no=["b"]), Sample("ab", [], ["b"]))

    def test_what_was_passed_may_be_changed_later(self):
        yes, no = ["b", "a"], ["", "ab"]
        sample = Sample("ab", yes, no)
        self.assertEqual((yes, no), (["b", "a"], ["", "ab"]))
        before = parts(sample)
        yes.append("bb")
        no.clear()
        self.assertEqual(parts(sample), before)
        self.assertIsNone(sample.mark("bb"))
        self.assertIs(sample.mark("ab"), False)

    def test_properties_cannot_be_assigned(self):
        sample = Sample("ab", ["a"])
        for name in ("letters", "yes", "no", "prefixes", "size", "text"):
            with self.assertRaises(AttributeError):
                setattr(sample, name, ())

    def test_what_is_defined_here(self):
        self.assertEqual(Sample.__module__, samples.__name__)
        for name in ("read", "text", "letters", "yes", "no", "prefixes", "size", "mark", "adding", "without"):
            self.assertIn(name, vars(Sample))


class MarkTest(ErrorCase):
    def test_words_and_other_words(self):
        sample = Sample("ab", ["", "ab"], ["a", "bb"])
        self.assertEqual([sample.mark(word) for word in ("", "ab", "a", "bb")], [True, True, False, False])
        self.assertEqual([sample.mark(word) for word in ("b", "aa", "aba", "a" * 50)], [None] * 4)

    def test_any_other_value(self):
        sample = Sample("ab", ["", "ab"], ["a", "bb"])
        for value in NO_WORDS:
            self.assertIsNone(sample.mark(value))

    def test_by_name(self):
        self.assertIs(Sample("ab", ["a"]).mark(word="a"), True)


class EqualityTest(unittest.TestCase):
    def test_equal(self):
        sample = Sample("ab", ["a", "b"], ["", "ab"])
        self.assertTrue(sample == Sample("ab", ("b", "a", "b"), ("ab", "")))
        self.assertFalse(sample != Sample("ab", ("b", "a", "b"), ("ab", "")))

    def test_not_equal(self):
        sample = Sample("ab", ["a"], ["b"])
        others = (Sample("abc", ["a"], ["b"]), Sample("ab", ["a", ""], ["b"]), Sample("ab", ["a"], ["b", ""]),
                  Sample("ab", ["b"], ["a"]), Sample("ab", ["a", "b"]), Sample("ab", [], ["a", "b"]), Sample("ab"))
        for other in others:
            self.assertTrue(sample != other)
            self.assertFalse(sample == other)

    def test_other_kinds(self):
        for other in (None, 0, True, "sample ab", ("ab", ("a",), ("b",)), [], {}, object()):
            self.assertFalse(Sample("ab", ["a"], ["b"]) == other)
            self.assertTrue(Sample("ab", ["a"], ["b"]) != other)


class ErrorsTest(ErrorCase):
    def test_letters(self):
        for letters in NO_LETTERS:
            with self.subTest(letters=letters):
                self.assert_error(InvalidLetters(), Sample, letters)
                self.assert_error(InvalidLetters(), Sample, letters, ["A"], None)

    def test_what_is_no_sequence(self):
        for value in NO_SEQUENCES:
            with self.subTest(value=value):
                self.assert_error(InvalidWord(value), Sample, "ab", value)
                self.assert_error(InvalidWord(value), Sample, "ab", ["a"], value)
                self.assert_error(InvalidWord(value), Sample, "ab", value, ["c"])
                self.assert_error(InvalidWord("c"), Sample, "ab", ["c"], value)

    def test_what_is_no_word(self):
        for value in NO_WORDS:
            with self.subTest(value=value):
                self.assert_error(InvalidWord(value), Sample, "ab", [value])
                self.assert_error(InvalidWord(value), Sample, "ab", (), ("a", "", value, "c"))
                self.assert_error(InvalidWord(value), Sample, "ab", ["b", value, "c"], [5])

    def test_twelve_and_thirteen_letters(self):
        self.assertEqual(Sample("ab", ["ab" * 6]).yes, ("ab" * 6,))
        self.assertEqual(len(Sample("ab", [], ["ab" * 6]).prefixes), 13)
        self.assert_error(InvalidWord("ab" * 6 + "a"), Sample, "ab", ["a", "ab" * 6 + "a"])
        self.assert_error(InvalidWord("a" * 13), Sample, "ab", ["a"], ["a" * 13])

    def test_the_least_word_with_both_marks(self):
        self.assert_error(InvalidSample(""), Sample, "ab", [""], [""])
        self.assert_error(InvalidSample("b"), Sample, "ab", ["ab", "aa", "b"], ["aa", "b", "a", "ab"])
        self.assert_error(InvalidSample("ab"), Sample, "ab", ["ba", "ab", "ab"], ["", "ba", "ab", "a"])

    def test_words(self):
        words = all_words("ab", 7)
        self.assertEqual(Sample("ab", words[:200]).size, 200)
        self.assertEqual(Sample("ab", words[:100], words[100:200]).size, 200)
        # A word that is there twice counts once.
        self.assertEqual(Sample("ab", words[:200] + words[:50]).size, 200)
        self.assert_error(TooLarge(WORDS), Sample, "ab", words[:201])
        self.assert_error(TooLarge(WORDS), Sample, "ab", words[:100], words[100:201])

    def test_prefixes(self):
        words = words_with_prefixes(600)
        self.assertEqual(len(Sample("abcd", words).prefixes), 600)
        self.assertEqual(len(Sample("abcd", words[:40], words[40:]).prefixes), 600)
        words = words_with_prefixes(601)
        self.assertLess(len(words), 200)
        self.assert_error(TooLarge(PREFIXES), Sample, "abcd", words)
        self.assert_error(TooLarge(PREFIXES), Sample, "abcd", words[:30], words[30:])

    def test_two_faults(self):
        words = long_words(201)
        self.assert_error(TooLarge(WORDS), Sample, "ab", words)
        self.assertGreater(len({word[:length] for word in words[:200] for length in range(13)}), 600)
        self.assert_error(TooLarge(PREFIXES), Sample, "ab", words[:200])
        self.assert_error(InvalidSample(words[7]), Sample, "ab", words, [words[9], words[7]])
        self.assert_error(InvalidWord("c"), Sample, "ab", words, [words[9], "c", 5])
        self.assert_error(InvalidWord(7), Sample, "ab", [*words, 7], [words[9], "c"])
        self.assert_error(InvalidWord("c"), Sample, "ab", ["a"], ["a", "c"])
        self.assert_error(InvalidLetters(), Sample, "ba", [*words, 7])


class AddingTest(ErrorCase):
    def setUp(self):
        self.sample = Sample("ab", ["a", "bb"], ["", "ab"])
        self.before = copy.deepcopy(parts(self.sample))

    def tearDown(self):
        self.assertEqual(parts(self.sample), self.before)

    def test_no_words(self):
        self.assertEqual(self.sample.adding(), self.sample)
        self.assertEqual(self.sample.adding(mark=False), self.sample)

    def test_one_word(self):
        self.assertEqual(self.sample.adding("b"), Sample("ab", ["a", "b", "bb"], ["", "ab"]))
        self.assertEqual(self.sample.adding("b", mark=True), Sample("ab", ["a", "b", "bb"], ["", "ab"]))
        self.assertEqual(self.sample.adding("b", mark=False), Sample("ab", ["a", "bb"], ["", "b", "ab"]))
        self.assertIsInstance(self.sample.adding("b"), Sample)

    def test_more_words(self):
        self.assertEqual(self.sample.adding("aab", "b"), Sample("ab", ["a", "b", "bb", "aab"], ["", "ab"]))
        added = self.sample.adding("bab", "b", "aa", mark=False)
        self.assertEqual(parts(added), ("ab", ("a", "bb"), ("", "b", "aa", "ab", "bab"),
                                        ("", "a", "b", "aa", "ab", "ba", "bb", "bab"), 7))
        self.assertIs(added.mark("bab"), False)

    def test_no_word(self):
        for value in NO_WORDS:
            with self.subTest(value=value):
                self.assert_error(InvalidWord(value), self.sample.adding, value)
                self.assert_error(InvalidWord(value), self.sample.adding, "b", value, "c", mark=False)
                # All words are looked at, before it is asked whether one is there already.
                self.assert_error(InvalidWord(value), self.sample.adding, "a", "b", "b", value)

    def test_twelve_and_thirteen_letters(self):
        self.assertEqual(self.sample.adding("a" * 12).size, 5)
        self.assert_error(InvalidWord("a" * 13), self.sample.adding, "a" * 12, "a" * 13)

    def test_duplicates(self):
        for mark in (True, False):
            for word in ("a", "bb", "", "ab"):
                self.assert_error(DuplicateWord(word), self.sample.adding, word, mark=mark)
                self.assert_error(DuplicateWord(word), self.sample.adding, "b", word, "b", mark=mark)
            self.assert_error(DuplicateWord("b"), self.sample.adding, "b", "b", mark=mark)
            self.assert_error(DuplicateWord("b"), self.sample.adding, "b", "aa", "b", "aa", "a", mark=mark)

    def test_words(self):
        words = all_words("ab", 7)
        full = Sample("ab", words[:150], words[150:200])
        for mark in (True, False):
            self.assert_error(TooLarge(WORDS), full.adding, words[200], mark=mark)
            self.assert_error(DuplicateWord(words[199]), full.adding, words[200], words[199], mark=mark)
            self.assertEqual(full.without(words[3]).adding(words[200], mark=mark).size, 200)
        self.assertEqual(full.size, 200)

    def test_prefixes(self):
        words = words_with_prefixes(601)
        most = Sample("abcd", words[:-1])
        self.assertEqual(len(most.adding(words[-1][:-1]).prefixes), 600)
        self.assert_error(TooLarge(PREFIXES), most.adding, words[-1])
        self.assert_error(TooLarge(PREFIXES), most.adding, words[-1], mark=False)
        self.assert_error(TooLarge(WORDS), Sample("ab", long_words(50)).adding, *long_words(256)[50:])


class WithoutTest(ErrorCase):
    def setUp(self):
        self.sample = Sample("ab", ["a", "bb"], ["", "ab"])
        self.before = copy.deepcopy(parts(self.sample))

    def tearDown(self):
        self.assertEqual(parts(self.sample), self.before)

    def test_no_words(self):
        self.assertEqual(self.sample.without(), self.sample)

    def test_one_word(self):
        self.assertEqual(parts(self.sample.without("bb")), ("ab", ("a",), ("", "ab"), ("", "a", "ab"), 3))
        self.assertEqual(self.sample.without(""), Sample("ab", ["a", "bb"], ["ab"]))
        self.assertIsNone(self.sample.without("ab").mark("ab"))
        self.assertIsInstance(self.sample.without("ab"), Sample)

    def test_more_words(self):
        self.assertEqual(self.sample.without("ab", "a"), Sample("ab", ["bb"], [""]))
        self.assertEqual(self.sample.without("ab", "bb", ""), Sample("ab", ["a"]))
        self.assertEqual(self.sample.without("ab", "bb", "", "a"), Sample("ab"))

    def test_unknown_words(self):
        for value in (*NO_WORDS, "b", "aa", "a" * 12):
            with self.subTest(value=value):
                self.assert_error(UnknownWord(value), self.sample.without, value)
                self.assert_error(UnknownWord(value), self.sample.without, "a", value, "a", "c")

    def test_a_word_twice(self):
        self.assert_error(UnknownWord("a"), self.sample.without, "a", "a")
        self.assert_error(UnknownWord("bb"), self.sample.without, "", "bb", "ab", "bb", "", "b")

    def test_there_and_back(self):
        self.assertEqual(self.sample.adding("b", "aba").without("aba", "b"), self.sample)
        self.assertEqual(self.sample.without("").adding("", mark=False), self.sample)
        self.assertIs(self.sample.without("").adding("").mark(""), True)


if __name__ == "__main__":
    unittest.main()
