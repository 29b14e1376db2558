"""Points [76] and [77] for notebooks."""

import random
import unittest

from helpers import NO_LETTERS, NotebookCase, all_words
from wordfit.errors import InvalidText, NothingToRedo, NothingToUndo
from wordfit.limits import CHOICES
from wordfit.notebooks import Notebook, Strict

TEXT = "notebook ab\nmost 3\nyes ba\nno -\nno aab\nyes a"
ENTRIES = [("ba", True), ("", False), ("aab", False), ("a", True)]
# With the third entry, the least size becomes 3.
GROWING = "notebook a\nmost 2\nno -\nyes a\nno aaa\nno aa\nno aaaa"
READERS = (Notebook.read, Strict.read)


class TextTest(NotebookCase):
    def test_the_text(self):
        book = Notebook("ab")
        self.assertEqual(book.text, "notebook ab\nmost 4")
        book.set_most(3)
        book.add_all(ENTRIES)
        self.assertEqual(book.text, TEXT)
        book.turn("ba")
        self.assertEqual(book.text, TEXT.replace("yes ba", "no ba"))
        book.undo(2)
        self.assertEqual(book.text, "notebook ab\nmost 3")
        self.assertEqual(Strict.made("ab", *ENTRIES, greatest=3).text, TEXT)

    def test_reading(self):
        for read, cls in zip(READERS, (Notebook, Strict)):
            book = read(TEXT)
            self.assertIs(type(book), cls)
            self.assertEqual((book.letters, book.most, book.text), ("ab", 3, TEXT))
            self.assert_shows(book, ENTRIES)
            self.assert_refused(NothingToUndo(), book, book.undo)
            self.assert_refused(NothingToRedo(), book, book.redo)
            self.assertEqual(cls.read(text=TEXT), book)
            book.add("aaa")
            book.undo()
            self.assert_refused(NothingToUndo(), book, book.undo)

    def test_the_text_of_notebooks_and_reading_it_again(self):
        chance = random.Random(44)
        for letters in ("a", "ab", "abc", "abcd", "bxyz"):
            for most in range(1, CHOICES // len(letters) + 1):
                words = chance.sample(all_words(letters, 4), 5)
                book = Notebook.made(letters, *[(word, chance.random() < 0.5) for word in words], greatest=most)
                self.assertEqual(Notebook.read(book.text), book)
                self.assertEqual(Notebook.read(book.text).text, book.text)
                if book.size is not None:
                    self.assertEqual(Strict.read(book.text), book)
                lines = [f"{'yes' if mark else 'no'} {word or '-'}" for word, mark in book.entries()]
                self.assertEqual(book.text.split("\n"), [f"notebook {letters}", f"most {most}", *lines])

    def test_many_entries(self):
        words = all_words("ab", 7)[:200]
        book = Notebook.made("ab", *[(word, False) for word in words[::-1]])
        self.assertEqual(Notebook.read(book.text), book)
        words = [start + "a" * 9 for start in all_words("abcd", 3)[21:79]]
        book = Notebook.made("abcd", *[(word, True) for word in words])
        self.assertEqual(Notebook.read(book.text), book)
        sixty = Notebook.made("ab", *[(word, len(word) % 2 == 0) for word in all_words("ab", 5)[:60]])
        self.assertEqual(Strict.read(sixty.text), sixty)


class InvalidTextTest(NotebookCase):
    def check(self, line, *lines, readers=READERS):
        for read in readers:
            with self.subTest(lines=lines[:6]):
                self.assert_error(InvalidText(line), read, "\n".join(lines))

    def test_what_is_no_string(self):
        for value in (None, True, False, 0, 1, [], ["notebook ab", "most 4"], (), {}, b"notebook ab\nmost 4",
                      [TEXT], (TEXT,)):
            for read in READERS:
                self.assert_error(InvalidText(0), read, value)

    def test_the_first_line(self):
        heads = ["", " ", "notebook", "notebook ", " notebook ab", "notebook  ab", "notebook ab ", "Notebook ab",
                 "notebooks ab", "notebook\tab", "notebook ab ab", "sample ab", "machine ab", "strict ab", "most 3",
                 "notebook -", "notebook ab\r"]
        heads += ["notebook " + value for value in NO_LETTERS if isinstance(value, str) and "\n" not in value]
        for head in heads:
            self.check(0, head)
            self.check(0, head, "most 3")
            self.check(0, head, "most 9", "yes a", "")

    def test_texts_that_end_too_early(self):
        self.check(1, "notebook ab")
        self.check(0, "")
        lines = TEXT.split("\n")
        for many in range(2, len(lines) + 1):
            self.assertEqual(len(Notebook.read("\n".join(lines[:many]))), many - 2)

    def test_the_greatest_size(self):
        for wrong in ("", " ", "most", "most ", " most 3", "most  3", "most 3 ", "most 0", "most 00", "most 01",
                      "most 03", "most -1", "most +3", "most 5", "most 9", "most 10", "most 33", "most " + "9" * 5000,
                      "most 3.0",
                      "most a", "most -", "most ?", "Most 3", "most\t3", "most 3 3", "3", "yes a", "most \u0663",
                      "most \xb2", "most 3\r", "most three", "most 1_0"):
            self.check(1, "notebook ab", wrong)
            self.check(1, "notebook ab", wrong, "most 3", "yes a")
        for letters in ("a", "ab", "abc", "abcd"):
            limit = CHOICES // len(letters)
            for number in range(1, limit + 1):
                self.assertEqual(Notebook.read(f"notebook {letters}\nmost {number}").most, number)
            self.check(1, f"notebook {letters}", f"most {limit + 1}")

    def test_lines_of_entries(self):
        for wrong in ("", " ", "yes", "no", "yes ", "no ", " yes b", "yes  b", "yes b ", "yes b b", "yes - -", "Yes b",
                      "true b", "+ b", "b yes", "b", "-", "yes c", "yes B", "yes b-", "yes --", "yes 0", "yes\tb",
                      "yes b\r", "yes " + "b" * 13, "most 3", "notebook ab", "no.b", "yes ''"):
            self.check(2, "notebook ab", "most 3", wrong)
            self.check(3, "notebook ab", "most 3", "no a", wrong)
            self.check(3, "notebook ab", "most 3", "no a", wrong, "yes bb", wrong)
        self.assertEqual(list(Notebook.read("notebook ab\nmost 3\nyes " + "b" * 12).entries()), [("b" * 12, True)])

    def test_an_empty_line_at_the_end(self):
        self.check(6, *TEXT.split("\n"), "")
        self.check(2, "notebook ab", "most 3", "")
        self.check(1, "notebook ab", "")

    def test_lines_left_out_twice_and_exchanged(self):
        lines = TEXT.split("\n")
        self.check(0, *lines[1:])
        self.check(1, lines[0], *lines[2:])
        for at in range(2, len(lines)):
            self.assertEqual(list(Notebook.read("\n".join(lines[:at] + lines[at + 1:])).entries()),
                             ENTRIES[:at - 2] + ENTRIES[at - 1:])
            # An entry twice.
            self.check(at + 1, *lines[:at + 1], *lines[at:])
            self.check(len(lines), *lines, lines[at])
            self.check(len(lines), *lines, lines[at].replace("yes", "on").replace("no", "yes").replace("on", "no"), "x")
            for other in range(2, at):
                moved = list(lines)
                moved[at], moved[other] = moved[other], moved[at]
                found = Notebook.read("\n".join(moved))
                self.assertEqual((found.sample, found.text), (Notebook.read(TEXT).sample, "\n".join(moved)))
        self.check(1, lines[0], lines[0], *lines[1:])
        self.check(2, *lines[:2], *lines[1:])
        self.check(0, lines[1], lines[0], *lines[2:])
        self.check(1, lines[0], lines[2], lines[1], *lines[3:])

    def test_the_limits(self):
        lines = ["notebook ab", "most 4", *[f"no {word or '-'}" for word in all_words("ab", 7)]]
        self.assertEqual(len(Notebook.read("\n".join(lines[:202]))), 200)
        self.check(202, *lines[:203], readers=READERS[:1])
        self.check(202, *lines[:210], readers=READERS[:1])
        words = [start + "a" * 9 for start in all_words("abcd", 3)[21:79]]
        lines = ["notebook abcd", "most 2", *[f"no {word}" for word in words]]
        self.assertEqual(len(Notebook.read("\n".join(lines)).sample.prefixes), 600)
        self.check(60, *lines, f"yes {words[-1][:-1]}b", readers=READERS[:1])
        self.check(61, *lines, f"yes {words[-1][:-1]}", f"no {words[-1][:-1]}b", readers=READERS[:1])
        self.check(40, *lines[:40], "yes e", *lines[40:], readers=READERS[:1])


class StrictTest(NotebookCase):
    def check(self, line, *lines):
        self.assert_error(InvalidText(line), Strict.read, "\n".join(lines))

    def test_the_line_with_which_there_is_no_size(self):
        lines = GROWING.split("\n")
        self.assertEqual(Notebook.read(GROWING).size, None)
        sizes = [Notebook.read("\n".join(lines[:many])).size for many in range(2, len(lines) + 1)]
        self.assertEqual(sizes, [1, 1, 2, None, None, None])
        first = 4
        self.check(first, *lines)
        for many in range(first + 1, len(lines) + 1):
            self.check(first, *lines[:many])
        self.assertEqual(Strict.read("\n".join(lines[:first])).size, 2)
        # A line that cannot stand anyway is later, or it comes first.
        self.check(first, *lines, "")
        self.check(first, *lines[:first + 1], "yes b", *lines[first + 1:])
        self.check(first - 1, *lines[:first - 1], "yes b", *lines[first - 1:])
        self.check(first, *lines[:first], lines[first - 1], *lines[first:])
        self.check(1, lines[0], "most 9", *lines[2:])
        self.check(0, "sample a", *lines[1:])

    def test_each_line(self):
        chance = random.Random(45)
        found = set()
        for _ in range(60):
            entries = [(word, chance.random() < 0.5) for word in chance.sample(all_words("ab", 3), 9)]
            book = Notebook.made("ab", *entries, greatest=chance.randrange(1, 4))
            lines = book.text.split("\n")
            line = None
            for many in range(2, len(lines) + 1):
                if Notebook.read("\n".join(lines[:many])).size is None:
                    line = many - 1
                    break
            if line is None:
                self.assertEqual(Strict.read(book.text), book)
            else:
                self.check(line, *lines)
                self.check(line, *lines, "x")
                found.add(line)
        self.assertGreater(len(found), 5)

    def test_too_many_prefixes(self):
        words = all_words("ab", 5)[:61]
        lines = ["notebook ab", "most 4", *[f"yes {word or '-'}" for word in words]]
        self.assertEqual(Strict.read("\n".join(lines[:62])).size, 1)
        self.check(62, *lines)
        self.check(62, *lines, "no a", "")
        # A long word has many prefixes.
        self.check(44, *lines[:42], "yes " + "ba" * 6, "yes " + "b" * 12, "yes " + "aabb" * 3, "x")
        lines = ["notebook ab", "most 4", *[f"no {word or '-'}" for word in all_words("ab", 7)]]
        self.check(62, *lines[:203])


if __name__ == "__main__":
    unittest.main()
