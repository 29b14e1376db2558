"""Points [78] and [79] and the interface's section wordfit/desk.py."""

import unittest

from helpers import NO_LETTERS, NotebookCase, all_words
from wordfit import desk as desk_file
from wordfit.desk import Desk
from wordfit.errors import (DuplicateWord, InvalidCommand, InvalidLetters, InvalidSample, InvalidText, NotComplete,
                            NothingToRedo, NothingToUndo, OutOfRange, TooLarge, UnknownWord)
from wordfit.limits import CHOICES, POINTS, PREFIXES, WORDS
from wordfit.machines import Machine
from wordfit.notebooks import Notebook

TURNED = "machine a / - 1 / + 0"
COMMANDS = ("yes a", "no -", "back a", "turn a", "undo", "undo 2", "redo", "redo 2", "most 2", "all yes a", "load x",
            "learn 2 x", "size", "count", "least", "merged", "words", "save", "answer a")


def desk_with(*lines, letters="ab"):
    desk = Desk(letters)
    desk.run(*lines)
    return desk


class DeskCase(NotebookCase):
    def assert_fails(self, expected, desk, call, *lines):
        """The call raises an error, and the desk has the same notebook object, which shows the same."""
        book, before = desk.notebook, self.shown(desk.notebook)
        self.assert_error(expected, call, *lines)
        self.assertIs(desk.notebook, book)
        self.assertEqual(self.shown(desk.notebook), before)


class ExecuteTest(DeskCase):
    def check(self, desk, line, result):
        found = desk.execute(line)
        self.assertEqual(found, result)
        self.assertIs(type(found), str)

    def test_the_example(self):
        self.assertEqual(Desk("ab").run("no -", "yes a", "size", "least"),
                         ["ok", "ok", "2", "machine ab / - 1 - / + - -"])

    def test_letters(self):
        for letters in NO_LETTERS:
            self.assert_error(InvalidLetters(), Desk, letters)
        for letters in ("a", "ab", "abcd"):
            desk = Desk(letters)
            self.assertEqual(desk.notebook, Notebook(letters))
            self.assertIs(type(desk.notebook), Notebook)
            self.assertEqual(desk.notebook.undoable, 0)

    def test_changes(self):
        desk = Desk("ab")
        book = Notebook("ab")
        for line, name, values in (
                ("yes a", "add", ("a",)), ("no -", "add", ("", False)), ("no bb", "add", ("bb", False)),
                ("turn bb", "turn", ("bb",)), ("turn -", "turn", ("",)), ("back a", "take_back", ("a",)),
                ("back -", "take_back", ("",)), ("undo", "undo", ()), ("undo 3", "undo", (3,)), ("redo", "redo", ()),
                ("redo 2", "redo", (2,)), ("most 3", "set_most", (3,)),
                ("all yes aa no b", "add_all", ([("aa", True), ("b", False)],)),
                ("all no ab", "add_all", ([("ab", False)],))):
            self.check(desk, line, "ok")
            getattr(book, name)(*values)
            self.assertEqual(self.shown(desk.notebook), self.shown(book))

    def test_what_is_shown(self):
        desk = Desk("ab")
        for line, result in (("size", "1"), ("count", "2"), ("least", "machine ab / ? - -"),
                             ("merged", "machine ab / ? - -"), ("words", "none"), ("save", "notebook ab / most 4"),
                             ("answer -", "1 1"), ("answer abababababab", "1 1")):
            self.check(desk, line, result)
        desk.run("yes ba", "no -", "most 2")
        count = desk.notebook.version_count()
        for line, result in (("words", "yes ba no -"), ("save", "notebook ab / most 2 / yes ba / no -"), ("size", "2"),
                             ("count", str(count)), ("answer ba", f"{count} 0"),
                             ("least", desk.notebook.least.text.replace("\n", " / ")),
                             ("merged", desk.notebook.merged.text.replace("\n", " / "))):
            self.check(desk, line, result)
        true, false = desk.notebook.version_answers("b")
        self.check(desk, "answer b", f"{true} {false}")
        self.assertEqual(desk.notebook.undoable, 2)

    def test_without_a_size(self):
        desk = desk_with("most 1", "no -", "yes a")
        for line, result in (("size", "none"), ("count", "none"), ("least", "none"), ("answer a", "none"),
                             ("merged", "machine ab / - 1 - / + - -"), ("words", "no - yes a")):
            self.check(desk, line, result)

    def test_learn(self):
        desk = Desk("a")
        self.check(desk, f"learn 2 {TURNED}", "no - yes a no aa")
        self.assertEqual(desk.notebook.undoable, 1)
        self.check(desk, f"learn 2 {TURNED}", "none")
        self.assertEqual((desk.notebook.undoable, desk.notebook.redoable), (1, 0))
        self.check(desk, f"learn 0 {TURNED}", "none")
        desk = Desk("ab")
        text = "machine ab / + 1 0 / - 2 1 / - 0 2"
        book = Notebook("ab")
        added = book.learn(Machine.read(text.replace(" / ", "\n")), 3)
        expected = [f"{'yes' if mark else 'no'} {word or '-'}" for word, mark in added]
        self.check(desk, f"learn 3 {text}", " ".join(expected))
        self.assertEqual(self.shown(desk.notebook), self.shown(book))

    def test_errors_of_learn(self):
        desk = desk_with("yes a", letters="a")
        for line, expected in (
                (f"learn 2 {TURNED} /", InvalidText(2)), ("learn 2 x", InvalidText(0)),
                ("learn 9 machine", InvalidText(0)), ("learn 2 machine a", InvalidText(1)),
                ("learn 9 machine a / + 1", InvalidText(2)),
                ("learn 2 machine a / + 0 / x", InvalidText(2)), ("learn 9 machine ab / + 0 0", InvalidLetters()),
                ("learn 9 machine a / + -", NotComplete(0)), ("learn 9 machine a / ? 0", NotComplete(0)),
                (f"learn 5 {TURNED}", OutOfRange(5)), (f"learn {'9' * 30} {TURNED}", OutOfRange(10 ** 30 - 1)),
                ("learn 2 machine a / - 0", InvalidSample("a"))):
            self.assert_fails(expected, desk, desk.execute, line)
        desk.run("most 1")
        self.assert_fails(TooLarge(1), desk, desk.execute, f"learn 2 {TURNED}")

    def test_load(self):
        desk = desk_with("yes a", "no -", "undo")
        first = desk.notebook
        self.check(desk, "load notebook bc / most 3 / yes b / no -", "ok")
        self.assertIsNot(desk.notebook, first)
        self.assertEqual(self.shown(desk.notebook),
                         self.shown(Notebook.made("bc", ("b", True), ("", False), greatest=3)))
        self.assertIs(type(desk.notebook), Notebook)
        self.assert_fails(NothingToUndo(), desk, desk.execute, "undo")
        self.check(desk, "yes bcbc", "ok")
        self.assert_fails(InvalidCommand("yes a"), desk, desk.execute, "yes a")
        self.assertEqual((list(first.entries()), first.undoable, first.redoable), ([("a", True)], 1, 1))
        # What is saved can be loaded.
        self.check(desk, "load " + desk.execute("save"), "ok")
        self.assertEqual(desk.execute("words"), "yes b no - yes bcbc")
        self.check(desk, "load notebook a / most 8", "ok")
        self.assertEqual((desk.notebook.letters, desk.notebook.most), ("a", 8))

    def test_errors_of_load(self):
        desk = desk_with("yes a", "no -", "undo")
        for text, line in (("x", 0), ("/", 0), ("notebook ab", 1), ("notebook ba / most 4", 0), ("notebook ab /", 0),
                           ("notebook ab / most 0", 1), ("notebook ab / most 4 /", 1),
                           ("notebook ab / most 4 / yes c", 2),
                           ("notebook ab / most 4 / yes a / yes a", 3), ("/ notebook ab / most 4", 0), ("sample ab", 0),
                           ("notebook ab/most 4", 0), ("notebook ab / most 4 / yes a yes b", 2),
                           ("notebook ab / most 4 / / / yes a", 2), ("notebook\tab / most 4", 0)):
            self.assert_fails(InvalidText(line), desk, desk.execute, f"load {text}")

    def test_errors_of_the_notebook(self):
        desk = desk_with("yes a", "no -", "undo")
        for line, expected in (
                ("yes a", DuplicateWord("a")), ("no a", DuplicateWord("a")), ("all yes b no a", DuplicateWord("a")),
                ("all yes b no b", DuplicateWord("b")), ("back -", UnknownWord("")), ("turn b", UnknownWord("b")),
                ("undo 2", NothingToUndo()), ("redo 2", NothingToRedo()), ("undo 0", OutOfRange(0)),
                ("redo 0", OutOfRange(0)), ("most 0", OutOfRange(0)), ("most 5", TooLarge(CHOICES)),
                ("undo " + "9" * 30, NothingToUndo()), ("redo 1" + "0" * 29, NothingToRedo()),
                ("most " + "9" * 30, TooLarge(CHOICES))):
            self.assert_fails(expected, desk, desk.execute, line)

    def test_the_limits_of_the_notebook(self):
        words = all_words("ab", 7)
        desk = desk_with("all " + " ".join(f"yes {word}" for word in words[1:201]))
        self.assertEqual(len(desk.notebook), 200)
        self.assert_fails(TooLarge(WORDS), desk, desk.execute, "no -")
        words = [start + "a" * 9 for start in all_words("abcd", 3)[21:79]]
        desk = desk_with("all " + " ".join(f"no {word}" for word in words), letters="abcd")
        self.assert_fails(TooLarge(PREFIXES), desk, desk.execute, f"no {words[-1][:-1]}b")
        self.assertEqual(desk.run("size", "count", "least", "answer a"), ["none"] * 4)
        self.assert_fails(TooLarge(POINTS), desk, desk.execute, "learn 1 machine abcd / - 0 0 0 0")

    def test_numbers(self):
        desk = desk_with(*["yes a"] + ["turn a"] * 12)
        self.check(desk, "undo 12", "ok")
        self.check(desk, "redo 10", "ok")
        self.check(desk, "undo 1", "ok")
        self.assertEqual((desk.notebook.undoable, desk.notebook.redoable), (10, 3))
        for number in ("01", "00", "007", "+1", "-1", "1.0", "a", "", "1_0", "\u0663", "\xb2", "9" * 31,
                       "1" + "0" * 30, "0x1", "-", "1 ", " 1", "1e1"):
            for line in (f"undo {number}", f"redo {number}", f"most {number}", f"learn {number} {TURNED}"):
                self.assert_fails(InvalidCommand(line), desk, desk.execute, line)

    def test_words(self):
        desk = Desk("ab")
        for command, after in (("yes", "undo"), ("no", "undo"), ("answer", "size")):
            desk.execute(f"{command} {'ab' * 6}")
            desk.execute(after)
            for word in ("a" * 13, "c", "abc", "A", "a-", "--", "", "1", "\xe4", "a\t", "a,b", "''"):
                line = f"{command} {word}"
                self.assert_fails(InvalidCommand(line), desk, desk.execute, line)
        for word in ("a" * 13, "c", "B", "--", "0"):
            for line in (f"back {word}", f"turn {word}", f"all yes {word}", f"all yes a no {word}",
                         f"all yes {word} no c"):
                self.assert_fails(InvalidCommand(line), desk, desk.execute, line)

    def test_the_form_of_commands(self):
        desk = desk_with("yes ab", "yes ba", "undo")
        for line in COMMANDS:
            for wrong in (f" {line}", f"{line} ", line.replace(" ", "  ") if " " in line else f"  {line}", f"{line}\n",
                          f"\n{line}", line.replace(" ", "\n") if " " in line else f"{line}\nsize", f"{line.upper()}",
                          line.replace(" ", "\t") if " " in line else f"{line}\t", line.title()):
                self.assert_fails(InvalidCommand(wrong), desk, desk.execute, wrong)
        for line in ("", " ", "  ", "\n", "x", "-", "a", "yess a", "maybe a", "add a", "ye a", "none", "ok", "run",
                     "help"):
            self.assert_fails(InvalidCommand(line), desk, desk.execute, line)

    def test_too_few_and_too_many_words(self):
        desk = desk_with("yes ab", "yes ba", "undo")
        for line in ("yes", "no", "back", "turn", "answer", "most", "all", "load", "learn", "learn 2", "yes a b",
                     "no a a", "back ab ab", "turn ab -", "undo 1 1", "redo 1 1", "most 2 2", "all yes", "all yes a no",
                     "all a", "all yes a b", "all yes yes a", "all maybe a", "all a yes", "size 1", "count a",
                     "least x", "merged -", "words x", "save x", "answer a b", "size size", "learn machine a / + 0",
                     "yes yes", f"learn {TURNED} 2"):
            self.assert_fails(InvalidCommand(line), desk, desk.execute, line)

    def test_values_of_any_kind(self):
        desk = desk_with("yes ab", "yes ba", "undo")
        for value in (None, True, False, 0, 1, -1, 10 ** 60, [], ["size"], ("size",), ("yes", "a"), {}, {"size": 1},
                      b"size", [["yes a"]], (None, ["size"])):
            self.assert_fails(InvalidCommand(value), desk, desk.execute, value)
            self.assert_fails(InvalidCommand(value), desk, desk.run, value)
            self.assert_fails(InvalidCommand(value), desk, desk.run, "yes a", value, "size")

    def test_the_notebook_itself(self):
        desk = Desk("ab")
        book = desk.notebook
        self.assertIs(desk.notebook, book)
        book.add("a")
        book.set_most(2)
        self.assertEqual(desk.run("words", "save"), ["yes a", "notebook ab / most 2 / yes a"])
        desk.execute("no b")
        self.assertEqual(list(book.entries()), [("a", True), ("b", False)])
        desk.execute("undo 2")
        self.assertEqual((len(book), book.redoable), (0, 2))
        with self.assertRaises(AttributeError):
            desk.notebook = book

    def test_by_name(self):
        desk = Desk(letters="ab")
        self.assertEqual(desk.execute(line="size"), "1")

    def test_what_is_defined_here(self):
        self.assertEqual(Desk.__module__, desk_file.__name__)
        for name in ("notebook", "execute", "run"):
            self.assertIn(name, vars(Desk))


class RunTest(DeskCase):
    def test_no_line(self):
        desk = desk_with("yes a")
        self.assertEqual(desk.run(), [])
        self.assertIs(type(desk.run()), list)
        self.assertEqual(desk.execute("words"), "yes a")

    def test_several_lines(self):
        desk = Desk("a")
        book = desk.notebook
        lines = ("size", "no -", "yes a", "size", f"learn 2 {TURNED}", "undo", "words", "redo 1", "turn a", "count",
                 "most 1", "size", "save")
        expected = [Desk.execute(other, line) for other in [Desk("a")] for line in lines]
        self.assertEqual(desk.run(*lines), expected)
        self.assertEqual(expected[:7], ["1", "ok", "ok", "2", "no aa", "ok", "no - yes a"])
        self.assertIs(desk.notebook, book)
        self.assertEqual((book.undoable, book.most), (4, 1))

    def test_a_line_that_fails_behind_others(self):
        for lines in (("yes aa",), ("turn a",), ("back -",), ("undo 2",), ("redo",), ("most 1",), ("all yes ab no bb",),
                      ("load notebook abc / most 2",), ("load notebook ab / most 4", "yes a", "undo", "most 1"),
                      ("yes ab", "load notebook c / most 1 / yes c"), ("undo", "yes b", "most 1"),
                      ("undo 2", "redo 1", "most 2", "turn -", "undo"),
                      ("most 4", "learn 1 machine ab / - 1 0 / + 0 1"), ("size", "words"), (),
                      ("turn a", "load notebook a / most 3", "load notebook b / most 3", "yes b")):
            for last, expected in (("x", InvalidCommand("x")), (7, InvalidCommand(7)), ("undo 99", NothingToUndo()),
                                   ("redo 99", NothingToRedo()), ("most 9", TooLarge(CHOICES)),
                                   ("load notebook", InvalidText(0)), ("undo 0", OutOfRange(0)),
                                   ("learn 1 machine d / + 0", InvalidLetters())):
                desk = desk_with("no -", "yes a", "yes b", "undo", "most 3")
                book = desk.notebook
                self.assertEqual((book.undoable, book.redoable, book.most), (2, 1, 3))
                self.assert_fails(expected, desk, desk.run, *lines, last, "size")
                self.assertIs(desk.notebook, book)
                # The steps are those from before.
                self.assertEqual(desk.run("redo", "words", "undo 3", "words"), ["ok", "no - yes a yes b", "ok", "none"])

    def test_the_error_of_the_first_line_that_fails(self):
        desk = desk_with("yes a")
        self.assert_fails(DuplicateWord("a"), desk, desk.run, "yes b", "no a", "x", "undo 9")
        self.assert_fails(InvalidCommand("x"), desk, desk.run, "yes b", "x", "no a")
        self.assert_fails(UnknownWord("b"), desk, desk.run, "yes b", "undo", "back b")
        # Whether a line is a command depends on the lines before it.
        self.assert_fails(InvalidCommand("yes c"), desk, desk.run, "yes b", "yes c", "load notebook abc / most 1")
        self.assertEqual(desk.run("load notebook abc / most 1", "yes c", "words"), ["ok", "ok", "yes c"])

    def test_changes_ahead_of_a_notebook_that_is_loaded(self):
        desk = desk_with("yes a")
        book = desk.notebook
        desk.run("yes b", "load notebook ab / most 1 / no ab", "yes aa")
        self.assertEqual(list(book.entries()), [("a", True), ("b", True)])
        self.assertEqual(list(desk.notebook.entries()), [("ab", False), ("aa", True)])

    def test_a_run_after_one_that_failed(self):
        desk = Desk("ab")
        self.assert_fails(InvalidCommand("no"), desk, desk.run, "yes a", "no")
        self.assertEqual(desk.run("yes a", "words"), ["ok", "yes a"])


if __name__ == "__main__":
    unittest.main()
