"""Point [12] and the interface's section wordfit/machines.py. Their texts are tested in test_texts.py."""

import unittest

from helpers import NO_LETTERS, NO_MARKS, NO_ROWS, NO_SEQUENCES, NO_TARGETS, ODD_VALUES, ErrorCase, all_words
from wordfit import machines
from wordfit.errors import InvalidLetters, InvalidMachine, InvalidWord, NotComplete, TooLarge
from wordfit.limits import STATES
from wordfit.machines import Complete, Machine

NO_WORDS = (*ODD_VALUES, None, True, False, [], (), ["a"], ("a", "b"), "abc", "aba ", "\xe4")


def parts(machine):
    return (machine.letters, machine.transitions, machine.marks, machine.size)


def looping(cls, size, letters="a"):
    return cls(letters, [[0] * len(letters)] * size, [True] * size)


class MachineTest(ErrorCase):
    def test_one_state(self):
        self.assertEqual(parts(Machine("a", [[None]], [None])), ("a", ((None,),), (None,), 1))
        self.assertEqual(parts(Machine("a", [[0]], [True])), ("a", ((0,),), (True,), 1))
        self.assertEqual(parts(Complete("a", [[0]], [False])), ("a", ((0,),), (False,), 1))

    def test_missing_transitions_and_marks(self):
        machine = Machine("ab", [(1, None), [None, 0]], (None, False))
        self.assertEqual(parts(machine), ("ab", ((1, None), (None, 0)), (None, False), 2))

    def test_kinds_of_the_properties(self):
        for machine in (Machine("ab", [[0, None]], [True]), Machine("ab", ((0, None),), (True,)),
                        Complete("ab", [[0, 0]], [True]), Machine.of_rows("ab", [True, 0, None])):
            self.assertEqual([type(part) for part in parts(machine)], [str, tuple, tuple, int])
            self.assertIs(type(machine.transitions[0]), tuple)
            self.assertIs(machine.marks[0], True)

    def test_arguments_by_name(self):
        expected = Machine("ab", [(1, 0), (0, 1)], [True, False])
        for cls in (Machine, Complete):
            self.assertEqual(cls(marks=[True, False], letters="ab", transitions=[(1, 0), (0, 1)]), expected)
            self.assertEqual(cls.of_rows("ab", (True, 1, 0), (False, 0, 1)), expected)
        self.assertIs(expected.answer(word="a"), False)
        self.assertEqual(expected.run(word="a"), 1)
        self.assertEqual(list(expected.walk(word="a")), [0, 1])

    def test_what_was_passed_may_be_changed_later(self):
        for cls in (Machine, Complete):
            transitions, marks = [[1, 0], [0, 1]], [True, False]
            machine = cls("ab", transitions, marks)
            self.assertEqual((transitions, marks), ([[1, 0], [0, 1]], [True, False]))
            transitions[0][0] = None
            transitions.append([5, 5])
            marks[1] = None
            self.assertEqual(parts(machine), ("ab", ((1, 0), (0, 1)), (True, False), 2))
            self.assertEqual(machine.run("aa"), 0)
            rows = [[True, 1, 0], [False, 0, 1]]
            machine = cls.of_rows("ab", *rows)
            self.assertEqual(rows, [[True, 1, 0], [False, 0, 1]])
            rows[0][1] = 7
            rows[1].clear()
            self.assertEqual(parts(machine), ("ab", ((1, 0), (0, 1)), (True, False), 2))

    def test_properties_cannot_be_assigned(self):
        for machine in (looping(Machine, 1), looping(Complete, 1)):
            for name in ("letters", "transitions", "marks", "size", "text"):
                with self.assertRaises(AttributeError):
                    setattr(machine, name, ())

    def test_classes(self):
        self.assertIs(Machine.OPEN, True)
        self.assertIs(Complete.OPEN, False)
        self.assertEqual(Complete.__bases__, (Machine,))
        self.assertIs(looping(Machine, 1).OPEN, True)
        self.assertIs(looping(Complete, 1).OPEN, False)

    def test_what_is_defined_here(self):
        self.assertEqual({Machine.__module__, Complete.__module__}, {machines.__name__})
        for name in ("of_rows", "read", "text", "OPEN", "letters", "transitions", "marks", "size",
                     "run", "answer", "walk"):
            self.assertIn(name, vars(Machine))
        self.assertIn("OPEN", vars(Complete))


class OfRowsTest(ErrorCase):
    def test_the_class_on_which_it_is_called(self):
        self.assertIs(type(Machine.of_rows("a", (True, 0))), Machine)
        self.assertIs(type(Complete.of_rows("a", (True, 0))), Complete)

    def test_rows(self):
        machine = Machine.of_rows("ab", (None, 1, None), [False, None, 0])
        self.assertEqual(parts(machine), ("ab", ((1, None), (None, 0)), (None, False), 2))

    def test_what_is_no_row(self):
        for cls in (Machine, Complete):
            for value in (None, True, 0, 1, "", "ab", {}, {0: True}, (), []):
                with self.subTest(cls=cls.__name__, value=value):
                    self.assert_error(InvalidMachine(0), cls.of_rows, "a", value)
                    self.assert_error(InvalidMachine(1), cls.of_rows, "a", (True, 0), value, (True, 0), ())
                    # The rows come ahead of the errors of the class.
                    self.assert_error(InvalidMachine(1), cls.of_rows, "ba", (7, 0), value)
                    self.assert_error(InvalidMachine(600), cls.of_rows, "a", *[(True, 0)] * 600, value)

    def test_errors_of_the_class(self):
        for cls in (Machine, Complete):
            self.assert_error(InvalidMachine(None), cls.of_rows, "a")
            self.assert_error(InvalidLetters(), cls.of_rows, "ba")
            self.assert_error(InvalidLetters(), cls.of_rows, None, (7,))
            self.assert_error(InvalidMachine(0), cls.of_rows, "a", (True,))
            self.assert_error(InvalidMachine(1), cls.of_rows, "a", (True, 0), (True, 0, 0))
            self.assert_error(InvalidMachine(1), cls.of_rows, "a", (True, 1), (1, 0))
            self.assert_error(InvalidMachine(0), cls.of_rows, "a", (True, 2), (1, 0))
            self.assert_error(TooLarge(STATES), cls.of_rows, "a", *[(7,)] * 601)
            self.assert_error(InvalidMachine(None), cls.of_rows, letters="a")
        self.assert_error(NotComplete(1), Complete.of_rows, "a", (True, 0), (True, None))


class ErrorsTest(ErrorCase):
    def check(self, expected, *arguments):
        self.assert_error(expected, Machine, *arguments)
        self.assert_error(expected, Complete, *arguments)

    def test_letters(self):
        for letters in NO_LETTERS:
            with self.subTest(letters=letters):
                self.check(InvalidLetters(), letters, [[0]], [True])
                self.check(InvalidLetters(), letters, None, [7])

    def test_what_is_no_sequence(self):
        for value in NO_SEQUENCES:
            with self.subTest(value=value):
                self.check(InvalidMachine(None), "ab", value, [True, True])
                self.check(InvalidMachine(None), "ab", [(0, 0), (0, 0)], value)
                self.check(InvalidMachine(None), "ab", value, value)

    def test_lengths(self):
        self.check(InvalidMachine(None), "a", [], [])
        self.check(InvalidMachine(None), "a", (), [])
        self.check(InvalidMachine(None), "a", [[0]], [])
        self.check(InvalidMachine(None), "a", [], [True])
        self.check(InvalidMachine(None), "a", [[0]], [True, True])
        self.check(InvalidMachine(None), "a", [[0], [0]], [True])
        self.check(InvalidMachine(None), "a", [[0]] * 601, [True] * 600)

    def test_states(self):
        for cls in (Machine, Complete):
            self.assertEqual(looping(cls, 600).size, 600)
            self.assertEqual(looping(cls, 600, "abcd").run("dcba"), 0)
            self.assert_error(TooLarge(STATES), looping, cls, 601)
            self.assert_error(TooLarge(STATES), cls, "a", [None] * 601, [7] * 601)
        last = Machine("a", [[599]] * 600, [None] * 600)
        self.assertEqual(last.run("a"), 599)
        self.check(InvalidMachine(599), "a", [[599]] * 599 + [[600]], [True] * 600)

    def test_targets(self):
        for target in NO_TARGETS:
            with self.subTest(target=target):
                self.check(InvalidMachine(0), "ab", [(target, 0), (0, 0)], [True, True])
                self.check(InvalidMachine(0), "ab", [(0, target), (0, 0)], [True, True])
                self.check(InvalidMachine(1), "ab", [(0, 0), (1, target)], [True, True])
                self.check(InvalidMachine(1), "ab", [[0, 0], [target, 0]], [None, True])

    def test_rows(self):
        for row in NO_ROWS:
            with self.subTest(row=row):
                self.check(InvalidMachine(0), "ab", [row, (0, 0)], [True, True])
                self.check(InvalidMachine(1), "ab", [(0, 0), row], [True, True])

    def test_marks(self):
        for mark in NO_MARKS:
            with self.subTest(mark=mark):
                self.check(InvalidMachine(0), "ab", [(0, 0), (0, 0)], [mark, True])
                self.check(InvalidMachine(1), "ab", [(0, 0), (0, 0)], [True, mark])

    def test_the_first_state(self):
        self.check(InvalidMachine(1), "a", [[0], [3], [3]], [True, True, 7])
        self.check(InvalidMachine(0), "a", [[0], [3], [3]], [7, True, 7])
        self.check(InvalidMachine(1), "a", [[0], [1], [3]], [True, 0, True])
        self.check(InvalidMachine(2), "a", [[0], [1], [3]], [True, None, True])

    def test_not_complete(self):
        for state in range(3):
            rows, marks = [[1, 2], [0, 0], [2, 1]], [True, False, True]
            marks[state] = None
            self.assert_error(NotComplete(state), Complete, "ab", rows, marks)
            for letter in range(2):
                rows, marks = [[1, 2], [0, 0], [2, 1]], [True, False, True]
                rows[state][letter] = None
                self.assert_error(NotComplete(state), Complete, "ab", rows, marks)
                self.assertEqual(Machine("ab", rows, marks).size, 3)
        self.assert_error(NotComplete(1), Complete, "a", [[0], [None], [None]], [True, True, None])
        self.assert_error(NotComplete(1), Complete, "a", [[0], [0], [None]], [True, None, True])

    def test_not_complete_comes_behind_the_errors_of_machine(self):
        self.check(InvalidMachine(2), "a", [[None], [0], [7]], [None, True, True])
        self.check(InvalidMachine(1), "a", [[None], [0]], [None, 1])


class RunTest(ErrorCase):
    machine = Machine("ab", [(1, None), (1, 0)], [False, True])

    def test_along_transitions(self):
        self.assertEqual([self.machine.run(word) for word in ("", "a", "aa", "ab", "aba", "aab" * 500)],
                         [0, 1, 1, 0, 1, 0])
        self.assertEqual([self.machine.answer(word) for word in ("", "a", "aa", "ab", "aba", "aab" * 500)],
                         [False, True, True, False, True, False])

    def test_a_word_leaves_the_machine(self):
        for word in ("b", "ba", "bb", "abb", "abba", "aab" * 500 + "b" + "a" * 500):
            self.assertIsNone(self.machine.run(word))
            self.assertIsNone(self.machine.answer(word))

    def test_a_state_without_a_mark(self):
        machine = Machine("a", [[1], [None]], [True, None])
        self.assertEqual([machine.run(word) for word in ("", "a", "aa")], [0, 1, None])
        self.assertEqual([machine.answer(word) for word in ("", "a", "aa")], [True, None, None])

    def test_walk(self):
        self.assertEqual(list(self.machine.walk("")), [0])
        self.assertEqual(list(self.machine.walk("aab")), [0, 1, 1, 0])
        self.assertEqual(list(self.machine.walk("b")), [0])
        self.assertEqual(list(self.machine.walk("abba")), [0, 1, 0])
        self.assertEqual(next(self.machine.walk("abba")), 0)
        self.assertEqual(len(list(self.machine.walk("a" * 3000))), 3001)

    def test_each_state_of_the_walk_is_that_of_a_beginning(self):
        machine = Complete("abc", [(1, 2, 0), (2, 2, 1), (0, 1, 2)], [True, False, True])
        for word in all_words("abc", 4):
            states = [machine.run(word[:length]) for length in range(len(word) + 1)]
            self.assertEqual(list(machine.walk(word)), states)
            self.assertIs(machine.answer(word), machine.marks[states[-1]])

    def test_what_is_no_word(self):
        for machine in (self.machine, Complete("ab", [(0, 0)], [True])):
            for value in NO_WORDS:
                with self.subTest(value=value):
                    self.assert_error(InvalidWord(value), machine.run, value)
                    self.assert_error(InvalidWord(value), machine.answer, value)
                    self.assert_error(InvalidWord(value), lambda: next(machine.walk(value)))
        # Also if the word leaves the machine before the wrong letter.
        self.assert_error(InvalidWord("bc"), self.machine.run, "bc")
        self.assert_error(InvalidWord("bc"), self.machine.answer, "bc")
        self.assert_error(InvalidWord("bc"), lambda: next(self.machine.walk("bc")))

    def test_walk_raises_its_error_when_it_is_iterated(self):
        states = self.machine.walk("c")
        self.assert_error(InvalidWord("c"), list, states)


class EqualityTest(unittest.TestCase):
    def test_whatever_the_classes(self):
        rows = ((1, 0), (0, 1)), (True, False)
        for one in (Machine("ab", *rows), Complete("ab", *rows)):
            for other in (Machine("ab", *rows), Complete("ab", *rows)):
                self.assertTrue(one == other)
                self.assertFalse(one != other)

    def test_not_equal(self):
        machine = Machine("ab", ((1, 0), (0, 1)), (True, False))
        others = (Machine("ac", ((1, 0), (0, 1)), (True, False)), Machine("ab", ((1, 0), (0, 0)), (True, False)),
                  Machine("ab", ((1, None), (0, 1)), (True, False)), Machine("ab", ((1, 0), (0, 1)), (True, None)),
                  Complete("ab", ((1, 0), (0, 1)), (True, True)), Machine("ab", ((0, 0),), (True,)))
        for other in others:
            self.assertTrue(machine != other)
            self.assertFalse(machine == other)

    def test_other_kinds(self):
        machine = Machine("a", ((0,),), (True,))
        for other in (None, 0, True, "a", ("a", ((0,),), (True,)), [], {}, object(), machine.text):
            self.assertFalse(machine == other)
            self.assertTrue(machine != other)


if __name__ == "__main__":
    unittest.main()
