"""Point [74]: notebooks whose size is never None."""

import random
import unittest

from helpers import NO_ENTRY_WORDS, NotebookCase, all_words
from wordfit.errors import (DuplicateWord, InvalidLetters, InvalidSample, InvalidText, InvalidWord, NotComplete,
                            NothingToRedo, NothingToUndo, OutOfRange, TooLarge, UnknownWord)
from wordfit.limits import CHOICES, POINTS, WORDS
from wordfit.machines import Complete, Machine
from wordfit.notebooks import Notebook, Strict

# Their least size is 3; without ("aa", False), it is 2.
ENTRIES = [("", False), ("a", True), ("aa", False), ("aaa", False)]
WORDS_OF_SIXTY = all_words("ab", 5)[:60]
# Its answers cannot be told by two states.
MACHINE = Complete("ab", [(1, 0), (2, 1), (0, 2)], [True, False, False])


def strict(*entries, greatest=None):
    return Strict.made("ab", *entries, greatest=greatest)


class StrictTest(NotebookCase):
    def test_what_has_a_size(self):
        book = Strict("ab")
        self.assert_shows(book, [])
        for at, (word, mark) in enumerate(ENTRIES):
            book.add(word, mark)
            self.assert_shows(book, ENTRIES[:at + 1])
        self.assertEqual((book.size, book.undoable), (3, 4))
        book.turn("a")
        self.assertEqual(book.size, 1)
        book.take_back("a")
        book.undo(2)
        self.assert_shows(book, ENTRIES)
        book.redo(2)
        self.assert_shows(book, [ENTRIES[0], *ENTRIES[2:]])
        book.set_most(1)
        self.assertEqual((book.most, book.size), (1, 1))

    def test_add(self):
        book = strict(*ENTRIES[:3], greatest=2)
        self.assert_refused(TooLarge(2), book, book.add, "aaa", False)
        self.assert_refused(TooLarge(2), book, book.add_all, [("aaa", False)])
        self.assert_refused(TooLarge(2), book, book.add_all, [("b", True), ("aaa", False), ("bb", True)])
        book.add("aaa", True)
        self.assertEqual((book.size, book.undoable), (2, 1))

    def test_other_errors_come_first(self):
        book = strict(*ENTRIES[:3], greatest=2)
        for word in NO_ENTRY_WORDS:
            self.assert_refused(InvalidWord(word), book, book.add, word)
            self.assert_refused(InvalidWord(word), book, book.add_all, [("aaa", False), (word, True)])
        self.assert_refused(DuplicateWord("a"), book, book.add_all, [("aaa", False), ("a", True)])
        self.assert_refused(DuplicateWord("aaa"), book, book.add_all, [("aaa", False), ("aaa", True)])
        words = [(word, True) for word in all_words("ab", 7)[15:]]
        self.assert_refused(TooLarge(WORDS), book, book.add_all, [("aaa", False), *words])
        self.assert_refused(InvalidWord("c"), book, book.add_all, [("aaa", False), *words[:80], ("c", True)])

    def test_sixty_and_sixty_one_prefixes(self):
        book = Strict("ab")
        for word in WORDS_OF_SIXTY:
            book.add(word, len(word) % 2 == 0)
        self.assertEqual((book.size, len(book.sample.prefixes)), (2, 60))
        more = all_words("ab", 5)[60]
        self.assert_refused(TooLarge(POINTS), book, book.add, more)
        self.assert_refused(TooLarge(POINTS), book, book.add, more, False)
        self.assert_refused(TooLarge(POINTS), book, book.add_all, [(more, True)])
        self.assert_refused(TooLarge(POINTS), book, book.add_all, [("a" * 12, True)])
        self.assert_refused(DuplicateWord("a"), book, book.add_all, [(more, True), ("a", True)])
        book.take_back(WORDS_OF_SIXTY[-1])
        book.add(more, False)
        self.assertEqual(book.size, 2)
        # Too many prefixes come before a size that is too great.
        book = strict(*ENTRIES[:3], greatest=2)
        words = [(word, False) for word in all_words("ab", 5)[15:]]
        self.assert_refused(TooLarge(POINTS), book, book.add_all, [("aaa", False), *words])

    def test_take_back_and_turn(self):
        book = strict(("", False), ("a", True), ("aa", False), ("aaa", True), greatest=2)
        self.assert_refused(TooLarge(2), book, book.turn, "aaa")
        self.assert_refused(UnknownWord("b"), book, book.turn, "b")
        self.assert_refused(UnknownWord("b"), book, book.take_back, "b")
        self.assert_refused(UnknownWord(7), book, book.turn, 7)
        self.assert_refused(TooLarge(2), book, book.turn, "a")
        book.take_back("aaa")
        book.turn("a")
        self.assertEqual((book.size, book.undoable), (1, 2))

    def test_set_most(self):
        book = strict(*ENTRIES)
        for value in (1, 2):
            self.assert_refused(TooLarge(value), book, book.set_most, value)
        for value in (0, -1, True, "2", None):
            self.assert_refused(OutOfRange(value), book, book.set_most, value)
        self.assert_refused(TooLarge(CHOICES), book, book.set_most, 5)
        book.set_most(3)
        self.assertEqual((book.most, book.size), (3, 3))

    def test_undo_and_redo_after_set_most(self):
        book = Strict("ab")
        for word, mark in ENTRIES:
            book.add(word, mark)
        # The sizes are 1, 1, 2, 2 and 3, and then 1 and 1.
        book.turn("a")
        book.take_back("aaa")
        book.set_most(2)
        self.assert_refused(TooLarge(2), book, book.undo, 2)
        self.assert_refused(NothingToUndo(), book, book.undo, 7)
        self.assert_refused(OutOfRange(0), book, book.undo, 0)
        book.undo()
        self.assert_refused(TooLarge(2), book, book.undo)
        self.assertEqual((book.undoable, book.redoable), (5, 1))
        book.undo(2)
        self.assertEqual((book.undoable, book.redoable, book.size), (3, 3, 2))
        self.assert_refused(TooLarge(2), book, book.redo)
        self.assert_refused(NothingToRedo(), book, book.redo, 4)
        self.assert_refused(OutOfRange(True), book, book.redo, True)
        book.set_most(4)
        book.redo()
        self.assert_shows(book, ENTRIES)
        book.undo(2)
        book.undo()
        book.set_most(1)
        for count in (1, 2, 3):
            self.assert_refused(TooLarge(1), book, book.redo, count)
        book.redo(5)
        self.assertEqual((book.size, book.most), (1, 1))

    def test_learn(self):
        for greatest, length in ((2, 3), (2, 4)):
            book = strict(greatest=greatest)
            self.assert_refused(TooLarge(2), book, book.learn, MACHINE, length)
            self.assert_refused(InvalidLetters(), book, book.learn, Complete("a", [(0,)], [True]), length)
            self.assert_refused(NotComplete(0), book, book.learn, Machine("ab", [(0, None)], [True]), length)
        book = strict(("a", True), greatest=2)
        self.assert_refused(InvalidSample("a"), book, book.learn, MACHINE, 3)
        self.assert_refused(OutOfRange(5), book, book.learn, MACHINE, 5)
        book = Strict("ab")
        added = book.learn(MACHINE, 4)
        self.assertEqual(added, Notebook("ab").learn(MACHINE, 4))
        self.assert_shows(book, added)
        self.assertEqual((book.size, book.undoable), (3, 1))

    def test_made_and_read(self):
        self.assert_error(TooLarge(2), Strict.made, "ab", *ENTRIES, greatest=2)
        self.assert_error(TooLarge(1), Strict.made, "ab", *ENTRIES, greatest=1)
        self.assert_error(DuplicateWord("a"), Strict.made, "ab", *ENTRIES, ("a", True), greatest=2)
        self.assert_error(InvalidWord("c"), Strict.made, "ab", *ENTRIES, ("c", True), greatest=2)
        self.assert_error(OutOfRange(0), Strict.made, "ab", *ENTRIES, greatest=0)
        self.assert_error(TooLarge(CHOICES), Strict.made, "ab", *ENTRIES, greatest=5)
        words = [(word, True) for word in all_words("ab", 5)]
        self.assert_error(TooLarge(POINTS), Strict.made, "ab", *words)
        self.assert_error(TooLarge(POINTS), Strict.made, "ab", *ENTRIES, *words[15:], greatest=2)
        self.assert_error(InvalidText(5), Strict.read, Notebook.made("ab", *ENTRIES, greatest=2).text)
        self.assertEqual(Strict.read(Notebook.made("ab", *ENTRIES, greatest=3).text), strict(*ENTRIES, greatest=3))

    def test_compared_with_a_notebook(self):
        chance = random.Random(41)
        refused = 0
        for letters in ("a", "ab", "ab", "abc"):
            strict_book, book = Strict(letters), Notebook(letters)
            for _ in range(80):
                words = [word for word, _ in book.entries()]
                free = [word for word in all_words(letters, 3) if word not in words]
                name, values = chance.choice((
                    ("add", (chance.choice(free or words), chance.random() < 0.5)),
                    ("add_all", ([(word, chance.random() < 0.5) for word in chance.sample(free, min(2, len(free)))],)),
                    ("take_back", (chance.choice(words or free),)), ("turn", (chance.choice(words or free),)),
                    ("undo", (chance.randrange(1, 4),)), ("redo", (chance.randrange(1, 3),)),
                    ("set_most", (chance.randrange(1, CHOICES // len(letters) + 1),))))
                before = book.standing
                try:
                    getattr(book, name)(*values)
                except Exception as error:
                    self.assert_refused(error, strict_book, getattr(strict_book, name), *values)
                    continue
                if book.size is None:
                    refused += 1
                    self.assert_refused(TooLarge(book.most), strict_book, getattr(strict_book, name), *values)
                    book.standing = before
                else:
                    getattr(strict_book, name)(*values)
                self.assertEqual(self.shown(strict_book), self.shown(book))
        self.assertGreater(refused, 20)


if __name__ == "__main__":
    unittest.main()
