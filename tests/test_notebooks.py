"""Points [4] and [70] to [73] and the interface's section wordfit/notebooks.py."""

import random
import types
import unittest

from helpers import NO_COUNTS, NO_ENTRY_WORDS, NO_LETTERS, ODD_VALUES, NotebookCase, all_words
from wordfit import notebooks
from wordfit.errors import (DuplicateWord, InvalidLetters, InvalidWord, NothingToRedo, NothingToUndo, OutOfRange,
                            TooLarge, UnknownWord)
from wordfit.limits import CHOICES, PREFIXES, WORDS
from wordfit.machines import Machine
from wordfit.notebooks import Notebook, Strict
from wordfit.samples import Sample

ENTRIES = [("", False), ("a", True), ("ba", True), ("bb", False)]
LETTERS = ("a", "ab", "abc", "abcd")
# 58 words with 600 prefixes, and a word that has one new prefix.
LONG = [start + "a" * 9 for start in all_words("abcd", 3)[21:79]]
ONE_MORE = LONG[-1][:-1] + "b"


def book_of(entries=ENTRIES, letters="ab"):
    """A notebook to which the entries were added one after another."""
    book = Notebook(letters)
    for word, mark in entries:
        book.add(word, mark)
    return book


class NotebookTest(NotebookCase):
    def test_the_example(self):
        book = Notebook("ab")
        book.add_all([("", False), ("a", True)])
        self.assertEqual((book.size, book.version_count(), book.least.text), (2, 8, "machine ab\n- 1 -\n+ - -"))
        self.assert_refused(DuplicateWord("a"), book, book.add, "a", False)

    def test_a_new_notebook(self):
        for letters in LETTERS:
            book = Notebook(letters)
            self.assertEqual((book.letters, book.most, len(book)), (letters, CHOICES // len(letters), 0))
            self.assertEqual((book.undoable, book.redoable), (0, 0))
            self.assertEqual((book.size, book.version_count(), book.version_answers("a")), (1, 2, (1, 1)))
            self.assertEqual(book.least, Machine(letters, [[None] * len(letters)], [None]))
            self.assert_shows(book, [])

    def test_letters(self):
        for letters in NO_LETTERS:
            for cls in (Notebook, Strict):
                self.assert_error(InvalidLetters(), cls, letters)
                self.assert_error(InvalidLetters(), cls.made, letters)
                self.assert_error(InvalidLetters(), cls.made, letters, ("a", True), greatest=0)
                self.assert_error(InvalidLetters(), cls.made, letters, (7, True), ("a", True), ("a", False))

    def test_what_each_change_shows(self):
        book = Notebook("ab")
        for at, (word, mark) in enumerate(ENTRIES):
            self.assertIsNone(book.add(word, mark))
            self.assert_shows(book, ENTRIES[:at + 1])
            self.assertEqual((book.undoable, book.redoable), (at + 1, 0))
        self.assertIsNone(book.turn("a"))
        self.assert_shows(book, [("", False), ("a", False), ("ba", True), ("bb", False)])
        self.assertIsNone(book.take_back(""))
        self.assert_shows(book, [("a", False), ("ba", True), ("bb", False)])
        self.assertIsNone(book.add_all([("", True), ("aab", False)]))
        self.assert_shows(book, [("a", False), ("ba", True), ("bb", False), ("", True), ("aab", False)])
        self.assertIsNone(book.undo(2))
        self.assert_shows(book, [("", False), ("a", False), ("ba", True), ("bb", False)])
        self.assertIsNone(book.redo())
        self.assert_shows(book, [("a", False), ("ba", True), ("bb", False)])
        self.assertIsNone(book.set_most(1))
        self.assert_shows(book, [("a", False), ("ba", True), ("bb", False)])
        self.assertEqual((book.most, book.size, book.undoable, book.redoable), (1, None, 6, 1))

    def test_random_histories(self):
        chance = random.Random(40)
        for letters in ("a", "ab", "ab", "abc"):
            book = Notebook(letters)
            steps, place = [[]], 0
            for _ in range(60):
                entries = list(steps[place])
                kind = chance.randrange(8)
                free = [word for word in all_words(letters, 3) if word not in dict(entries)]
                if kind < 3 and free:
                    added = [(word, chance.random() < 0.5) for word in chance.sample(free, min(kind, len(free)))]
                    book.add_all(added)
                    entries += added
                elif kind == 3 and entries:
                    word = chance.choice(entries)[0]
                    book.take_back(word)
                    entries = [entry for entry in entries if entry[0] != word]
                elif kind == 4 and entries:
                    word = chance.choice(entries)[0]
                    book.turn(word)
                    entries = [(known, mark is (known != word)) for known, mark in entries]
                elif kind == 5 and place > 0:
                    count = chance.randrange(1, min(place, 3) + 1)
                    book.undo(count)
                    place -= count
                    self.assert_shows(book, steps[place])
                    continue
                elif kind == 6 and place + 1 < len(steps):
                    book.redo()
                    place += 1
                    self.assert_shows(book, steps[place])
                    continue
                else:
                    most = chance.randrange(1, CHOICES // len(letters) + 1)
                    book.set_most(most)
                    self.assertEqual((book.most, book.undoable, book.redoable), (most, place, len(steps) - 1 - place))
                    self.assert_shows(book, entries)
                    continue
                steps[place + 1:] = [entries]
                place += 1
                self.assert_shows(book, entries)
                self.assertEqual((book.undoable, book.redoable), (place, 0))

    def test_entries_is_a_generator(self):
        book = book_of()
        self.assertIsInstance(book.entries(), types.GeneratorType)
        first = book.entries()
        self.assertEqual(next(first), ENTRIES[0])
        self.assertEqual(list(book.entries()), ENTRIES)
        book.take_back("a")
        self.assertEqual(list(book.entries()), [ENTRIES[0], *ENTRIES[2:]])

    def test_equality(self):
        book = book_of()
        for other in (book_of(), Strict.made("ab", *ENTRIES), Notebook.made("ab", *ENTRIES), Notebook.read(book.text)):
            self.assertTrue(book == other)
            self.assertTrue(other == book)
            self.assertFalse(book != other)
        # Steps do not matter.
        other = book_of()
        other.turn("a")
        self.assertFalse(book == other)
        other.turn("a")
        self.assertTrue(book == other)
        for other in (book_of(ENTRIES[::-1]), book_of(ENTRIES[:3]), Notebook.made("ab", *ENTRIES, greatest=3),
                      Notebook.made("abc", *ENTRIES, greatest=2), Strict.made("ab", *ENTRIES, greatest=3),
                      book_of([("", False), ("a", True), ("ba", True), ("bb", True)]), Notebook("ab"), book.sample,
                      book.text, None, 4, ENTRIES, tuple(ENTRIES)):
            self.assertFalse(book == other)
            self.assertFalse(other == book)
            self.assertTrue(book != other)
        self.assertFalse(Notebook("a") == Notebook("b"))

    def test_what_is_returned_is_not_the_notebook(self):
        book = book_of()
        sample, least = book.sample, book.least
        book.add("aaa")
        self.assertEqual((sample.size, book.sample.size), (4, 5))
        self.assertEqual(least, Notebook.made("ab", *ENTRIES).least)

    def test_two_notebooks_have_their_own_entries(self):
        one, other = Notebook("ab"), Notebook("ab")
        one.add("a")
        self.assertEqual((len(one), len(other)), (1, 0))

    def test_kinds(self):
        book = book_of()
        for name in ("letters", "sample", "size", "least", "merged", "undoable", "redoable", "text", "most"):
            getattr(book, name)
        for name in ("sample", "size", "least", "merged", "undoable", "redoable", "text", "most"):
            with self.assertRaises(AttributeError):
                setattr(book, name, 1)
        self.assertEqual((type(book.sample), type(book.least), type(book.merged)), (Sample, Machine, Machine))
        self.assertEqual((type(len(book)), type(book.version_answers("a"))), (int, tuple))

    def test_what_is_defined_here(self):
        self.assertEqual((Notebook.__module__, Strict.__module__), (notebooks.__name__, notebooks.__name__))
        self.assertTrue(issubclass(Strict, Notebook))
        for name in ("entries", "__len__", "__eq__", "most", "sample", "size", "least", "merged", "version_count",
                     "version_answers", "add", "add_all", "take_back", "turn", "undo", "redo", "undoable", "redoable",
                     "set_most", "learn", "made", "read", "text", "letters"):
            self.assertIn(name, vars(Notebook))


class AddTest(NotebookCase):
    def test_the_mark(self):
        book = Notebook("ab")
        book.add("a")
        book.add("b", False)
        book.add(mark=False, word="aa")
        book.add(word="ab")
        self.assertEqual(list(book.entries()), [("a", True), ("b", False), ("aa", False), ("ab", True)])

    def test_words_that_are_none(self):
        for book in (Notebook("ab"), book_of(), Strict.made("ab", *ENTRIES)):
            for word in NO_ENTRY_WORDS:
                self.assert_refused(InvalidWord(word), book, book.add, word)
                self.assert_refused(InvalidWord(word), book, book.add, word, False)
                self.assert_refused(InvalidWord(word), book, book.add_all, [(word, True)])
        book = Notebook("a")
        self.assert_refused(InvalidWord("b"), book, book.add, "b")
        book.add("a" * 12)
        self.assert_shows(book, [("a" * 12, True)])

    def test_words_that_are_there(self):
        book = book_of()
        for word, _ in ENTRIES:
            for mark in (True, False):
                self.assert_refused(DuplicateWord(word), book, book.add, word, mark)
                self.assert_refused(DuplicateWord(word), book, book.add_all, [("aaa", True), (word, mark)])
        book.take_back("a")
        book.add("a")
        self.assertEqual(list(book.entries()), [ENTRIES[0], *ENTRIES[2:], ("a", True)])

    def test_add_all(self):
        book = Notebook("ab")
        passed = [["ab", True], ("", False), ("b", True)]
        self.assertIsNone(book.add_all(passed))
        self.assertEqual(passed, [["ab", True], ("", False), ("b", True)])
        passed[0][1] = False
        passed.append(("a", True))
        self.assert_shows(book, [("ab", True), ("", False), ("b", True)])
        self.assertEqual(book.undoable, 1)
        book.add_all((("a", True),))
        self.assertEqual((len(book), book.undoable), (4, 2))
        book.add_all(entries=[("bb", True)])
        self.assertEqual(len(book), 5)

    def test_the_empty_list_is_a_step(self):
        book = book_of()
        book.undo()
        self.assertEqual((book.undoable, book.redoable), (3, 1))
        book.add_all([])
        self.assertEqual((book.undoable, book.redoable), (4, 0))
        self.assert_shows(book, ENTRIES[:3])
        book.undo()
        self.assert_shows(book, ENTRIES[:3])
        book.add_all(())
        self.assertEqual((book.undoable, book.redoable), (4, 0))

    def test_the_first_entry_that_cannot_be_added(self):
        book = book_of()
        for expected, entries in (
                (InvalidWord("c"), [("aa", True), ("ab", False), ("c", True), ("a", True)]),
                (InvalidWord(7), [("aa", True), (7, False), ("aa", True)]),
                (DuplicateWord("aa"), [("aa", True), ("b", True), ("aa", False), ("c", True)]),
                (DuplicateWord("aa"), [("aa", True), ("aa", True), (None, True)]),
                (DuplicateWord(""), [("aa", True), ("", True), ("aa", False)])):
            self.assert_refused(expected, book, book.add_all, entries)
            self.assert_refused(expected, book, book.add_all, tuple(entries))
            self.assert_error(expected, Notebook.made, "ab", *ENTRIES, *entries)

    def test_two_hundred_words(self):
        words = all_words("ab", 6)[1:] + all_words("ab", 7)[127:202]
        book = Notebook("ab")
        for at, word in enumerate(words[:200]):
            book.add(word, at % 3 == 0)
        self.assertEqual((len(book), book.undoable, book.size), (200, 200, None))
        self.assertEqual(book.sample.size, WORDS)
        self.assert_refused(TooLarge(WORDS), book, book.add, words[200])
        self.assert_refused(TooLarge(WORDS), book, book.add, "")
        self.assert_refused(DuplicateWord("a"), book, book.add, "a")
        self.assert_refused(InvalidWord("c"), book, book.add, "c")
        self.assert_refused(TooLarge(WORDS), book, book.add_all, [("", True), ("c", True)])
        self.assert_refused(DuplicateWord("b"), book, book.add_all, [("b", True), ("", True)])
        book.take_back("a")
        book.add("")
        self.assertEqual(len(book), 200)
        whole = Notebook("ab")
        entries = [(word, True) for word in words[:201]]
        self.assert_refused(TooLarge(WORDS), whole, whole.add_all, entries)
        self.assert_refused(TooLarge(WORDS), whole, whole.add_all, [*entries, ("c", True)])
        self.assert_refused(InvalidWord("c"), whole, whole.add_all, [*entries[:200], ("c", True)])
        whole.add_all(entries[:200])
        self.assertEqual((len(whole), whole.undoable), (200, 1))
        book.undo(202)
        self.assert_shows(book, [])

    def test_six_hundred_prefixes(self):
        book = book_of([(word, True) for word in LONG], "abcd")
        self.assertEqual(len(book.sample.prefixes), PREFIXES)
        self.assert_shows(book, [(word, True) for word in LONG])
        self.assert_refused(TooLarge(PREFIXES), book, book.add, ONE_MORE)
        self.assert_refused(TooLarge(PREFIXES), book, book.add_all,
                            [(LONG[0][:5], True), (ONE_MORE, True), ("e", True)])
        self.assert_refused(InvalidWord("e"), book, book.add_all, [("e", True), (ONE_MORE, True)])
        # Words that are prefixes already can be added.
        book.add_all([(LONG[0][:5], True), ("", False)])
        self.assertEqual((len(book), len(book.sample.prefixes)), (60, PREFIXES))
        self.assert_error(TooLarge(PREFIXES), Notebook.made, "abcd", *[(word, True) for word in LONG], (ONE_MORE, True))
        book.take_back(LONG[3])
        book.add(ONE_MORE)
        self.assertEqual(len(book), 60)

    def test_sixty_and_sixty_one_prefixes(self):
        words = all_words("ab", 5)[:61]
        book = book_of([(word, len(word) % 2 == 0) for word in words[:60]])
        self.assertEqual((book.size, len(book.sample.prefixes)), (2, 60))
        self.assert_shows(book, [(word, len(word) % 2 == 0) for word in words[:60]])
        book.add(words[60], False)
        self.assertEqual((book.size, book.least, book.version_count()), (None, None, None))
        self.assertEqual(book.merged.size, 2)
        book.undo()
        self.assertEqual(book.size, 2)


class TakeBackAndTurnTest(NotebookCase):
    def test_values_that_are_no_words_of_entries(self):
        book = book_of()
        for word in (*NO_ENTRY_WORDS, "b", "aa", "ab", "bab"):
            self.assert_refused(UnknownWord(word), book, book.take_back, word)
            self.assert_refused(UnknownWord(word), book, book.turn, word)
        for book in (Notebook("ab"), Strict("ab")):
            for word in ("", "a", *ODD_VALUES):
                self.assert_refused(UnknownWord(word), book, book.take_back, word)
                self.assert_refused(UnknownWord(word), book, book.turn, word)

    def test_each_entry(self):
        for at, (word, mark) in enumerate(ENTRIES):
            book = book_of()
            self.assertIsNone(book.turn(word))
            self.assert_shows(book, [*ENTRIES[:at], (word, not mark), *ENTRIES[at + 1:]])
            self.assertIsNone(book.turn(word=word))
            self.assert_shows(book, ENTRIES)
            self.assertIsNone(book.take_back(word))
            self.assert_shows(book, ENTRIES[:at] + ENTRIES[at + 1:])
            self.assert_refused(UnknownWord(word), book, book.take_back, word)
            self.assert_refused(UnknownWord(word), book, book.turn, word)
            self.assertEqual((book.undoable, book.redoable), (7, 0))
        book.take_back(word="a")
        self.assertEqual(len(book), 2)


class UndoTest(NotebookCase):
    def steps(self):
        """A notebook, and its entries before and after each of its steps."""
        book = Notebook("ab")
        shown = [[]]
        for call, values in ((book.add, ("a",)), (book.add_all, ([("b", False), ("ab", True)],)), (book.turn, ("b",)),
                             (book.add_all, ([],)), (book.take_back, ("a",)), (book.add, ("", False))):
            call(*values)
            shown.append(list(book.entries()))
        return book, shown

    def test_one_and_several_steps(self):
        for first in range(1, 7):
            book, shown = self.steps()
            book.undo(first)
            self.assert_shows(book, shown[6 - first])
            self.assertEqual((book.undoable, book.redoable), (6 - first, first))
            for second in range(1, first + 1):
                book.redo(count=second)
                self.assert_shows(book, shown[6 - first + second])
                self.assertEqual((book.undoable, book.redoable), (6 - first + second, first - second))
                book.undo(count=second)
                self.assert_shows(book, shown[6 - first])

    def test_without_a_number(self):
        book, shown = self.steps()
        for at in range(5, -1, -1):
            self.assertIsNone(book.undo())
            self.assert_shows(book, shown[at])
        self.assert_refused(NothingToUndo(), book, book.undo)
        for at in range(1, 7):
            self.assertIsNone(book.redo())
            self.assert_shows(book, shown[at])
        self.assert_refused(NothingToRedo(), book, book.redo)

    def test_too_many_steps(self):
        book, _ = self.steps()
        book.undo(2)
        for count in (5, 6, 100, 10 ** 60):
            self.assert_refused(NothingToUndo(), book, book.undo, count)
        for count in (3, 4, 100, 10 ** 60):
            self.assert_refused(NothingToRedo(), book, book.redo, count)
        for cls in (Notebook, Strict):
            for book in (cls("ab"), cls.made("ab", *ENTRIES), cls.read(book.text)):
                self.assert_refused(NothingToUndo(), book, book.undo)
                self.assert_refused(NothingToRedo(), book, book.redo)

    def test_values_that_are_no_numbers(self):
        book, _ = self.steps()
        book.undo(3)
        for book in (book, Notebook("ab"), Strict("a")):
            for count in NO_COUNTS:
                self.assert_refused(OutOfRange(count), book, book.undo, count)
                self.assert_refused(OutOfRange(count), book, book.redo, count)

    def test_a_new_step_after_undo(self):
        for call, values in (("add", ("bb",)), ("add_all", ([],)), ("take_back", ("a",)), ("turn", ("a",))):
            book, shown = self.steps()
            book.undo(3)
            getattr(book, call)(*values)
            self.assertEqual((book.undoable, book.redoable), (4, 0))
            self.assert_refused(NothingToRedo(), book, book.redo)
            book.undo()
            self.assert_shows(book, shown[3])
            book.undo()
            self.assert_shows(book, shown[2])
            self.assertEqual(book.redoable, 2)

    def test_a_call_that_raises_an_error_is_no_step(self):
        book, shown = self.steps()
        book.undo(3)
        for call, value in ((book.add, "a"), (book.add, "c"), (book.take_back, "bb"), (book.turn, 7), (book.undo, 4),
                            (book.redo, 4), (book.set_most, 5)):
            self.assertRaises(Exception, call, value)
        self.assertEqual((book.undoable, book.redoable), (3, 3))
        book.redo(3)
        self.assert_shows(book, shown[6])

    def test_dozens_of_steps(self):
        book = Notebook("ab")
        book.add("a")
        for _ in range(80):
            book.turn("a")
        self.assertEqual((book.undoable, list(book.entries())), (81, [("a", True)]))
        book.undo(41)
        self.assertEqual((book.undoable, book.redoable, list(book.entries())), (40, 41, [("a", False)]))
        book.redo(40)
        self.assertEqual((book.undoable, book.redoable, list(book.entries())), (80, 1, [("a", False)]))


class SetMostTest(NotebookCase):
    def test_the_limit_and_one_more(self):
        for letters in LETTERS:
            limit = CHOICES // len(letters)
            book = Notebook(letters)
            for value in range(1, limit + 1):
                self.assertIsNone(book.set_most(value))
                self.assertEqual(book.most, value)
                self.assert_shows(book, [])
            for value in (limit + 1, limit + 2, 10 ** 60):
                self.assert_refused(TooLarge(CHOICES), book, book.set_most, value)
            self.assertEqual(book.undoable, 0)
        # Also if there are too many prefixes for a size.
        book = book_of([(word, True) for word in all_words("ab", 5)[:61]])
        self.assert_refused(TooLarge(CHOICES), book, book.set_most, 5)
        book.set_most(3)
        self.assertEqual((book.most, book.size), (3, None))

    def test_values_that_are_no_sizes(self):
        for book in (book_of(), Notebook("a"), Strict("abcd")):
            for value in NO_COUNTS:
                self.assert_refused(OutOfRange(value), book, book.set_most, value)

    def test_it_is_no_step(self):
        book = book_of()
        book.undo(2)
        book.set_most(1)
        self.assertEqual((book.undoable, book.redoable, book.size), (2, 2, None))
        self.assert_shows(book, ENTRIES[:2])
        book.redo()
        self.assertEqual((book.most, book.size), (1, None))
        book.set_most(value=2)
        self.assert_shows(book, ENTRIES[:3])
        book.undo(3)
        self.assertEqual((book.most, book.redoable), (2, 4))
        book.set_most(3)
        book.redo(4)
        self.assert_shows(book, ENTRIES)
        self.assertEqual(book.most, 3)


class VersionsTest(NotebookCase):
    def test_words_of_any_length(self):
        book = book_of()
        answers = book.version_answers("ab" * 50)
        self.assertEqual(sum(answers), book.version_count())
        self.assertEqual(book.version_answers(word="a"), (book.version_count(), 0))

    def test_words_that_are_none(self):
        without_size = book_of()
        without_size.set_most(1)
        self.assertIsNone(without_size.version_answers("a" * 13))
        many = book_of([(word, True) for word in all_words("ab", 5)[:61]])
        self.assertIsNone(many.version_answers(""))
        for book in (book_of(), without_size, many, Strict("ab")):
            for word in (*ODD_VALUES, None, True, False, "abc", ("a",), "-"):
                self.assert_refused(InvalidWord(word), book, book.version_answers, word)

    def test_the_answer_is_the_new_count(self):
        book = book_of()
        for word in all_words("ab", 3):
            if book.sample.mark(word) is None:
                for mark, many in zip((True, False), book.version_answers(word)):
                    size = book.size
                    book.add(word, mark)
                    if many > 0:
                        self.assertEqual((book.size, book.version_count()), (size, many))
                    else:
                        self.assertTrue(book.size is None or book.size > size)
                    book.undo()


class MadeTest(NotebookCase):
    def test_made(self):
        for cls in (Notebook, Strict):
            for entries in ((), ENTRIES[:1], ENTRIES):
                book = cls.made("ab", *entries)
                self.assertIs(type(book), cls)
                self.assert_shows(book, list(entries))
                self.assertEqual((book.most, book.undoable, book.redoable), (4, 0, 0))
                book = cls.made("ab", *entries, greatest=3)
                self.assertEqual((book.most, book.undoable, book.redoable), (3, 0, 0))
                self.assert_shows(book, list(entries))
        self.assertEqual(Notebook.made("ab", ["a", True], greatest=None), Notebook.made("ab", ("a", True)))
        self.assertEqual(Notebook.made(letters="ab", greatest=2).most, 2)
        self.assertEqual(Notebook.made("ab", *ENTRIES, greatest=1).size, None)

    def test_steps_after_made(self):
        book = Notebook.made("ab", *ENTRIES)
        book.add("bbb")
        self.assertEqual(book.undoable, 1)
        book.undo()
        self.assert_shows(book, ENTRIES)
        self.assert_refused(NothingToUndo(), book, book.undo)

    def test_errors_in_their_order(self):
        for cls in (Notebook, Strict):
            for greatest in NO_COUNTS:
                if greatest is not None:
                    self.assert_error(OutOfRange(greatest), cls.made, "ab", ("c", True), greatest=greatest)
                    self.assert_error(OutOfRange(greatest), cls.made, "ab", greatest=greatest)
            for letters, greatest in (("a", 9), ("ab", 5), ("abc", 3), ("abcd", 3)):
                self.assert_error(TooLarge(CHOICES), cls.made, letters, ("e", True), greatest=greatest)
            for word in NO_ENTRY_WORDS:
                self.assert_error(InvalidWord(word), cls.made, "ab", ("a", True), (word, True), ("a", True))
            self.assert_error(DuplicateWord("a"), cls.made, "ab", ("a", True), ("a", True), ("c", True))
            words = all_words("ab", 7)[:201]
            self.assert_error(TooLarge(WORDS), cls.made, "ab", *[(word, True) for word in words])
            self.assert_error(TooLarge(PREFIXES), cls.made, "abcd", *[(word, True) for word in LONG], (ONE_MORE, True))
        self.assertRaises(TypeError, Notebook.made, "ab", 2, greatest=2)


if __name__ == "__main__":
    unittest.main()
