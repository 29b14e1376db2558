"""Point [75]: entries that are answers of a machine."""

import itertools
import random
import unittest

from helpers import SIXTY, SIXTY_ONE, NotebookCase, all_machines, all_words, marked_words, order
from wordfit.errors import InvalidLetters, InvalidSample, NotComplete, NothingToRedo, OutOfRange, TooLarge
from wordfit.limits import POINTS
from wordfit.machines import Complete, Machine
from wordfit.notebooks import Notebook, Strict
from wordfit.points import Prefixes
from wordfit.samples import Sample
from wordfit.versions import Versions

TURNED = Machine("a", [(1,), (0,)], [False, True])
THREE = Complete("ab", [(1, 0), (2, 1), (0, 2)], [True, False, False])
NO_LENGTHS = (-1, 5, -10 ** 60, 10 ** 60, True, False, "1", "", None, (), [1], {})


def expected_entries(machine, length, entries, most):
    """The entries that are added, in the words of point [75]; None if there is no size."""
    entries = list(entries)
    added = []
    words = all_words(machine.letters, length)
    while True:
        over = Prefixes(Sample(machine.letters, [word for word, mark in entries if mark],
                               [word for word, mark in entries if not mark]))
        try:
            versions = list(Versions(over, most).machines())
        except TooLarge:
            return None
        trues = {word: sum(version.answer(word) for version in versions) for word in words}
        open_words = [word for word in words if 0 < trues[word] < len(versions)]
        wrong = [word for word in words if versions[0].answer(word) != machine.answer(word)]
        if open_words:
            # Words that all versions answer alike are never the question then.
            word = min(open_words, key=lambda one: (max(trues[one], len(versions) - trues[one]), order(one)))
        elif wrong:
            word = wrong[0]
        else:
            return added
        added.append((word, machine.answer(word)))
        entries.append(added[-1])


class LearnTest(NotebookCase):
    def check(self, machine, length, entries=(), most=None):
        letters = machine.letters
        book = Notebook.made(letters, *entries, greatest=most)
        expected = expected_entries(machine, length, entries, book.most)
        found = book.learn(machine, length)
        self.assertEqual(found, expected)
        self.assertIs(type(found), list)
        self.assertEqual({type(entry) for entry in found} - {tuple}, set())
        self.assert_shows(book, [*entries, *found])
        self.assertEqual((book.undoable, book.redoable), (1 if found else 0, 0))
        # All versions answer as the machine does.
        versions = Versions(Prefixes(book.sample), book.most)
        for word in all_words(letters, length):
            self.assertIs(versions.certain(word), machine.answer(word))
        self.assertEqual(Strict.made(letters, *entries, greatest=most).learn(machine, length), found)
        self.assertEqual(book.learn(machine, length), [])
        self.assertEqual(book.undoable, 1 if found else 0)
        return found

    def test_the_example(self):
        self.assertEqual(Notebook("a").learn(TURNED, 2), [("", False), ("a", True), ("aa", False)])

    def test_machines_of_one_to_three_states(self):
        chance = random.Random(42)
        for size in (1, 2, 3):
            machines = list(all_machines("a", size))
            for machine in chance.sample(machines, min(len(machines), 30)):
                for length in range(5):
                    self.check(machine, length)
        for size in (1, 2):
            for machine in itertools.islice(all_machines("ab", size), 0, None, 4):
                for length in (0, 1, 2, 4):
                    self.check(machine, length)
        for machine in chance.sample(list(all_machines("ab", 3)), 6):
            for length in (1, 3):
                self.check(machine, length)

    def test_more_letters(self):
        self.check(Complete("abc", [(1, 0, 1), (0, 1, 1)], [True, False]), 2)
        self.check(Complete("abcd", [(1, 0, 1, 0), (0, 1, 1, 0)], [False, True]), 1)

    def test_machines_that_are_not_reduced(self):
        self.check(Complete("ab", [(1, 1), (0, 0), (2, 2)], [True, True, False]), 3)
        # Only words of four letters are answered with True.
        self.check(Complete("a", [[1], [2], [3], [4], [0]], [False] * 4 + [True]), 3)
        self.check(Complete("a", [[1], [2], [3], [4], [0]], [False] * 4 + [True]), 4)
        many = Complete("a", [[(at + 1) % 600] for at in range(600)], [True] + [False] * 599)
        self.check(many, 4)

    def test_entries_that_are_there_already(self):
        chance = random.Random(43)
        for machine in (THREE, Complete("ab", [(1, 0), (1, 0)], [False, True])):
            for many in (1, 3, 6):
                words = chance.sample(all_words("ab", 4), many)
                self.check(machine, 3, [(word, machine.answer(word)) for word in words])
        self.check(Complete("a", [[1], [0]], [False, True]), 2, [("a" * 12, False)])

    def test_nothing_to_learn(self):
        book = Notebook("a")
        book.learn(TURNED, 4)
        entries = list(book.entries())
        book.add_all([])
        book.undo()
        self.assertEqual((book.undoable, book.redoable), (1, 1))
        self.assertEqual(book.learn(TURNED, 3), [])
        # There is no step, so redoing stays possible.
        self.assertEqual((book.undoable, book.redoable), (1, 1))
        book.redo()
        self.assert_shows(book, entries)

    def test_one_step(self):
        book = Notebook("ab")
        book.add("", True)
        book.add("a", False)
        book.undo()
        added = book.learn(THREE, 3)
        self.assertGreater(len(added), 3)
        self.assertEqual((book.undoable, book.redoable), (2, 0))
        self.assert_refused(NothingToRedo(), book, book.redo)
        book.undo()
        self.assert_shows(book, [("", True)])
        book.redo()
        self.assert_shows(book, [("", True), *added])

    def test_what_is_returned_is_a_new_list(self):
        book = Notebook("a")
        book.learn(TURNED, 2).clear()
        self.assertEqual(len(book), 3)

    def test_by_name(self):
        self.assertEqual(Notebook("a").learn(length=2, machine=TURNED), [("", False), ("a", True), ("aa", False)])


class ErrorsTest(NotebookCase):
    def test_other_letters(self):
        for book in (Notebook("ab"), Notebook.made("ab", ("a", True)), Strict("ab")):
            for machine in (TURNED, Machine("b", [[None]], [None]), Complete("abc", [[0] * 3], [True])):
                for length in (2, *NO_LENGTHS):
                    self.assert_refused(InvalidLetters(), book, book.learn, machine, length)

    def test_a_missing_transition_or_mark(self):
        for length in (2, *NO_LENGTHS):
            for book in (Notebook("ab"), Notebook.made("ab", ("", False)), Notebook.made("ab", ("", True), greatest=1)):
                self.assert_refused(NotComplete(1), book, book.learn, Machine("ab", [(1, 0), (0, None)], [True, False]),
                                    length)
                self.assert_refused(NotComplete(0), book, book.learn, Machine("ab", [(1, 0), (0, None)], [None, False]),
                                    length)

    def test_lengths(self):
        for length in NO_LENGTHS:
            for book in (Notebook("ab"), Notebook.made("ab", ("", False)), Strict("ab"),
                         Notebook.made("ab", ("", True), ("a", False), greatest=1)):
                self.assert_refused(OutOfRange(length), book, book.learn, THREE, length)

    def test_an_entry_with_another_mark(self):
        for entries, word in (([("", False)], ""), ([("bb", False), ("ab", True), ("a", True)], "a"),
                              ([("", True), ("aaa", True), ("bb", False), ("ab", True)], "ab")):
            book = Notebook.made("ab", *entries)
            for length in (0, 4):
                self.assert_refused(InvalidSample(word), book, book.learn, THREE, length)
            # It comes before a size that is None.
            book.set_most(1)
            self.assert_refused(InvalidSample(word), book, book.learn, THREE, 0)
        book = Notebook.made("ab", *[(word, True) for word in marked_words(SIXTY_ONE)])
        self.assert_refused(InvalidSample("a"), book, book.learn, THREE, 0)

    def test_a_most_size_that_is_too_small(self):
        for most in (1, 2):
            book = Notebook.made("ab", greatest=most)
            self.assert_refused(TooLarge(most), book, book.learn, THREE, 4)
        book = Notebook.made("ab", ("", True), ("a", False), greatest=1)
        # Also if there is nothing to learn.
        self.assert_refused(TooLarge(1), book, book.learn, THREE, 0)
        five = Complete("ab", [(at + 1, 0) for at in range(4)] + [(4, 0)], [at == 4 for at in range(5)])
        book = Notebook("ab")
        self.assert_refused(TooLarge(4), book, book.learn, five, 4)
        self.assertNotEqual(book.learn(five, 3), [])

    def test_more_than_sixty_prefixes(self):
        always = Complete("ab", [(0, 0)], [True])
        book = Notebook.made("ab", *[(word, True) for word in marked_words(SIXTY_ONE)])
        self.assert_refused(TooLarge(POINTS), book, book.learn, always, 0)
        book = Notebook.made("ab", *[(word, True) for word in marked_words(SIXTY)])
        self.assertEqual(book.learn(always, 4), [])
        # Only words that contain "bbb" are answered with False, and none of them is a prefix.
        machine = Complete("ab", [(0, 1), (0, 2), (0, 3), (3, 3)], [True, True, True, False])
        words = [word for word in all_words("ab", 6) if machine.answer(word)]
        book = Notebook.made("ab", *[(word, True) for word in words[:60]])
        self.assertEqual((len(book.sample.prefixes), book.size), (60, 1))
        self.assert_refused(TooLarge(POINTS), book, book.learn, machine, 3)
        self.assertEqual(book.learn(machine, 2), [])
        book = Notebook.made("ab", *[(word, True) for word in words[:59]])
        self.assertEqual(book.learn(machine, 3)[0], ("bbb", False))


if __name__ == "__main__":
    unittest.main()
