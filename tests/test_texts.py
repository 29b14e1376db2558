"""Points [76] and [77] for samples and machines, and the interface's section wordfit/texts.py."""

import itertools
import unittest

from helpers import NO_LETTERS, ErrorCase, all_words
from wordfit import texts
from wordfit.errors import InvalidText
from wordfit.machines import Complete, Machine
from wordfit.samples import Sample
from wordfit.texts import machine_parts, machine_text, sample_parts, sample_text

NO_STRINGS = (None, True, False, 0, 1, 10 ** 60, [], ["sample ab"], (), ("machine a", "+ 0"), {}, {"sample": "ab"})
SAMPLE = "sample ab\nno -\nyes a\nyes b\nno ab\nyes bba"
MACHINE = "machine ab\n- 1 -\n+ 2 1\n? - 0"
COMPLETE = "machine ab\n- 1 0\n+ 2 1\n- 2 0"

# What reads samples, what reads machines, and what reads complete machines only.
SAMPLE_READERS = (Sample.read, sample_parts)
OPEN_READERS = (Machine.read, machine_parts, lambda text: machine_parts(text, may_be_open=True))
CLOSED_READERS = (Complete.read, lambda text: machine_parts(text, may_be_open=False))


def samples():
    words = all_words("ab", 2)
    for marks in itertools.product((None, True, False), repeat=len(words)):
        yield Sample("ab", [word for word, mark in zip(words, marks) if mark],
                     [word for word, mark in zip(words, marks) if mark is False])


class SampleTextTest(ErrorCase):
    def test_texts(self):
        self.assertEqual(Sample("ab").text, "sample ab")
        self.assertEqual(Sample("q", [""]).text, "sample q\nyes -")
        self.assertEqual(Sample("abcd", ["dd", "b"], ["c", "aaa", ""]).text,
                         "sample abcd\nno -\nyes b\nno c\nyes dd\nno aaa")
        self.assertEqual(Sample("ab", ["b", "bba", "a"], ["", "ab"]).text, SAMPLE)

    def test_of_parts(self):
        self.assertEqual(sample_text("ab", [], ()), "sample ab")
        self.assertEqual(sample_text("ab", ["bba", "b", "a", "b"], ("ab", "", "ab", "")), SAMPLE)
        self.assertEqual(sample_text(letters="ab", yes=("bba", "b", "a"), no=["ab", ""]), SAMPLE)

    def test_arguments_do_not_change(self):
        yes, no = ["b", "a", "b"], ["bb", ""]
        sample_text("ab", yes, no)
        self.assertEqual((yes, no), (["b", "a", "b"], ["bb", ""]))

    def test_parts(self):
        self.assertEqual(sample_parts("sample ab\nno -\nyes b\nno aa"), ("ab", ("b",), ("", "aa")))
        self.assertEqual(sample_parts(text="sample c"), ("c", (), ()))
        self.assertEqual(sample_parts(SAMPLE), ("ab", ("a", "b", "bba"), ("", "ab")))

    def test_there_and_back(self):
        for sample in samples():
            self.assertEqual(Sample.read(sample.text), sample)
            self.assertEqual(sample_parts(sample.text), ("ab", sample.yes, sample.no))
            self.assertEqual(Sample.read(sample.text).text, sample.text)
        self.assertIs(type(Sample.read(text=SAMPLE)), Sample)

    def test_what_is_defined_here(self):
        for function in (sample_text, machine_text, sample_parts, machine_parts):
            self.assertEqual(function.__module__, texts.__name__)


class MachineTextTest(ErrorCase):
    def test_texts(self):
        self.assertEqual(Machine("ab", [(1, None), (None, None)], [False, True]).text, "machine ab\n- 1 -\n+ - -")
        self.assertEqual(Machine("a", [[None]], [None]).text, "machine a\n? -")
        self.assertEqual(Machine("ab", [(1, None), (2, 1), (None, 0)], [False, True, None]).text, MACHINE)
        self.assertEqual(Complete("ab", [(1, 0), (2, 1), (2, 0)], [False, True, False]).text, COMPLETE)
        self.assertEqual(Complete("abcd", [(0, 0, 0, 0)], [True]).text, "machine abcd\n+ 0 0 0 0")
        self.assertEqual(Machine("a", [[10]] * 11, [True] * 11).text, "machine a" + "\n+ 10" * 11)

    def test_of_parts(self):
        self.assertEqual(machine_text("ab", [[1, None], (2, 1), [None, 0]], [False, True, None]), MACHINE)
        self.assertEqual(machine_text(marks=(True,), letters="a", transitions=((0,),)), "machine a\n+ 0")

    def test_parts(self):
        self.assertEqual(machine_parts("machine ab\n- 1 -\n+ - -"), ("ab", ((1, None), (None, None)), (False, True)))
        self.assertEqual(machine_parts("machine a\n? -"), ("a", ((None,),), (None,)))
        self.assertEqual(machine_parts(text=COMPLETE, may_be_open=False),
                         ("ab", ((1, 0), (2, 1), (2, 0)), (False, True, False)))
        kinds = [type(part) for part in machine_parts(MACHINE)]
        self.assertEqual((kinds, type(machine_parts(MACHINE)[1][0])), ([str, tuple, tuple], tuple))

    def test_may_be_open_is_passed_by_name(self):
        with self.assertRaises(TypeError):
            machine_parts(MACHINE, True)

    def test_there_and_back(self):
        for row in itertools.product((None, 0, 1), repeat=4):
            for marks in itertools.product((None, True, False), repeat=2):
                machine = Machine("ab", [row[:2], row[2:]], marks)
                self.assertEqual(Machine.read(machine.text), machine)
                self.assertEqual(machine_parts(machine.text), ("ab", machine.transitions, machine.marks))
                if None in (*row, *marks):
                    with self.assertRaises(InvalidText):
                        Complete.read(machine.text)
                else:
                    self.assertEqual(Complete.read(machine.text), machine)

    def test_the_class_on_which_read_is_called(self):
        self.assertIs(type(Machine.read(text=COMPLETE)), Machine)
        self.assertIs(type(Complete.read(text=COMPLETE)), Complete)

    def test_600_states(self):
        machine = Machine("a", [[599 - at] for at in range(600)], [True] * 600)
        self.assertEqual(Machine.read(machine.text), machine)
        self.assertEqual(Complete.read(machine.text), machine)


class InvalidTextTest(ErrorCase):
    def check(self, readers, line, text):
        for read in readers:
            with self.subTest(text=text[:200]):
                self.assert_error(InvalidText(line), read, text)

    def check_lines(self, readers, line, *lines):
        self.check(readers, line, "\n".join(lines))

    def test_what_is_no_string(self):
        for read in (*SAMPLE_READERS, *OPEN_READERS, *CLOSED_READERS):
            for value in NO_STRINGS:
                self.assert_error(InvalidText(0), read, value)

    def test_the_first_line(self):
        heads = ("", " ", "sample", "machine", "sample ", "machine ", "ab", " sample ab", " machine ab", "sample  ab",
                 "machine  ab", "sample ab ", "machine ab ", "Sample ab", "Machine ab", "sample\tab", "machine\tab",
                 "sample ab ab", "machine ab 1", "sampl ab", "machines ab", "notebook ab", "sample -", "machine -",
                 "sample ab\r", "machine ab\r")
        letters = [value for value in NO_LETTERS if isinstance(value, str) and "\n" not in value]
        heads += tuple(kind + value for kind in ("sample ", "machine ") for value in letters)
        for head in heads:
            for rest in ("", "\nyes a", "\n+ 0 0", "\n\n"):
                self.check((*SAMPLE_READERS, *OPEN_READERS, *CLOSED_READERS), 0, head + rest)
        self.check(SAMPLE_READERS, 0, MACHINE)
        self.check((*OPEN_READERS, *CLOSED_READERS), 0, SAMPLE)

    def test_lines_of_a_sample(self):
        wrong = ("", " ", "yes", "no", "yes ", "no ", " yes b", "yes  b", "yes b ", "yes b b", "yes - -",
                 "Yes b", "YES b", "true b", "+ b", "- b", "b yes", "b", "-", "yes c", "yes B", "yes b-", "yes --",
                 "yes 0", "yes ''", "yes\tb", "yes b\r", "yes b\t", "sample ab", "yes " + "b" * 13,
                 "no " + "ab" * 7, "yes \xe4", "no.b")
        for line in wrong:
            self.check_lines(SAMPLE_READERS, 1, "sample ab", line)
            self.check_lines(SAMPLE_READERS, 2, "sample ab", "no a", line)
            self.check_lines(SAMPLE_READERS, 2, "sample ab", "no a", line, "yes bb")
            self.check_lines(SAMPLE_READERS, 2, "sample ab", "no a", line, line)
        self.assertEqual(Sample.read("sample ab\nno a\nyes " + "b" * 12).yes, ("b" * 12,))

    def test_an_empty_line_at_the_end(self):
        self.check(SAMPLE_READERS, 6, SAMPLE + "\n")
        self.check(SAMPLE_READERS, 1, "sample ab\n")
        self.check((*OPEN_READERS, *CLOSED_READERS), 1, "machine ab\n")
        self.check(OPEN_READERS, 4, MACHINE + "\n")
        self.check(CLOSED_READERS, 4, COMPLETE + "\n")

    def test_the_order_of_the_words(self):
        lines = SAMPLE.split("\n")
        for at in range(1, len(lines)):
            self.assertEqual(Sample.read("\n".join(lines[:at] + lines[at + 1:])).size, 4)
            self.check_lines(SAMPLE_READERS, at + 1, *lines[:at], lines[at], *lines[at:])
            # The same word with the other mark.
            other = lines[at].replace("yes", "on").replace("no", "yes").replace("on", "no")
            self.check_lines(SAMPLE_READERS, at + 1, *lines[:at + 1], other, *lines[at + 1:])
            for before in range(1, at):
                moved = lines[:before] + [lines[at]] + lines[before:at] + lines[at + 1:]
                self.check_lines(SAMPLE_READERS, before + 1, *moved)
        self.check(SAMPLE_READERS, 2, "sample ab\nyes aa\nyes b")
        self.check(SAMPLE_READERS, 2, "sample ab\nyes a\nno -")

    def test_the_limits_of_samples(self):
        words = all_words("ab", 7)
        lines = ["sample ab", *[f"yes {word}" if word else "no -" for word in words]]
        self.assertEqual(Sample.read("\n".join(lines[:201])).size, 200)
        self.check_lines(SAMPLE_READERS, 201, *lines[:202])
        self.check_lines(SAMPLE_READERS, 201, *lines[:205])
        self.check_lines(SAMPLE_READERS, 150, *lines[:150], "yes c", *lines[150:])

    def test_the_limit_of_prefixes(self):
        words = [start + "a" * 9 for start in all_words("abcd", 3)[21:]]
        for mark in ("yes", "no"):
            lines = ["sample abcd", *[f"{mark} {word}" for word in words[:58]]]
            self.assertEqual(len(Sample.read("\n".join(lines)).prefixes), 600)
            # A word that has one new prefix, itself.
            for word in (words[57][:-1] + "b", words[58]):
                self.check_lines(SAMPLE_READERS, 59, *lines, f"yes {word}")
                self.check_lines(SAMPLE_READERS, 59, *lines, f"no {word}", "no -", "x")

    def test_lines_of_a_machine(self):
        wrong = ("", " ", "+", "0 0", "+ 0", "+ 0 0 0", "+ 0 0 ", " + 0 0", "+  0 0", "+ 0  0", "+ 0 ", "+  0", " 0 0",
                 "+ 0 00", "+ 01 0", "+ 0 +1", "+ 0 -1", "+ 0 --", "+ 0 a", "+ 0 1a", "+ 0 ?", "* 0 0", "++ 0 0",
                 "True 0 0", "1 0 0", "+ 0 1.0", "+ 0 1_0", "+ 0 \xb2", "+ 0 \u0663", "+ 600 0", "+ 0 600", "+ 0 1000",
                 "+ 0 " + "9" * 5000, "+ 0 0\r", "+\t0 0", "+ 0 0x1", "machine ab", "+0 0", "+ 0 0599", "- 00 0",
                 "yes 0 0")
        for line in wrong:
            self.check_lines((*OPEN_READERS, *CLOSED_READERS), 1, "machine ab", line)
            self.check_lines((*OPEN_READERS, *CLOSED_READERS), 2, "machine ab", "- 1 1", line)
            self.check_lines((*OPEN_READERS, *CLOSED_READERS), 2, "machine ab", "- 1 1", line, "+ 0 1", line)

    def test_lines_of_an_open_machine(self):
        for line in ("? 0 1", "+ - 1", "- 0 -", "? - -"):
            self.check_lines(CLOSED_READERS, 2, "machine ab", "- 1 1", line)
            self.check_lines(CLOSED_READERS, 1, "machine ab", line, "- 1 1", "? 1 1")
            self.assertEqual(Machine.read(f"machine ab\n- 1 1\n{line}").size, 2)

    def test_a_machine_that_ends_too_early(self):
        self.check((*OPEN_READERS, *CLOSED_READERS), 1, "machine ab")
        self.check((*OPEN_READERS, *CLOSED_READERS), 2, "machine ab\n+ 0 1")
        self.check((*OPEN_READERS, *CLOSED_READERS), 2, "machine ab\n+ 599 0")
        self.check((*OPEN_READERS, *CLOSED_READERS), 4, "machine ab\n+ 0 0\n+ 3 0\n- 0 1")
        self.check((*OPEN_READERS, *CLOSED_READERS), 3, "machine ab\n+ 10 2\n+ 0 0")
        self.check(OPEN_READERS, 2, "machine ab\n? - 1")
        # A line that cannot stand is in front of the end.
        self.check((*OPEN_READERS, *CLOSED_READERS), 2, "machine ab\n+ 0 9\n+ 0 600")
        for text, readers in ((MACHINE, OPEN_READERS), (COMPLETE, CLOSED_READERS)):
            lines = text.split("\n")
            for many in range(1, len(lines)):
                self.check_lines(readers, many, *lines[:many])

    def test_lines_left_out_twice_and_exchanged(self):
        lines = ["machine a", "+ 1", "- 2", "- 3", "+ 0"]
        self.check_lines(CLOSED_READERS, 0, *lines[1:])
        for at in (1, 2, 4):
            self.check_lines((*OPEN_READERS, *CLOSED_READERS), 4, *lines[:at], *lines[at + 1:])
        self.assertEqual(Machine.read("machine a\n+ 1\n- 2\n+ 0").transitions, ((1,), (2,), (0,)))
        for at in range(1, 5):
            twice = Machine.read("\n".join(lines[:at + 1] + lines[at:]))
            self.assertEqual((twice.size, twice.transitions[at - 1]), (5, twice.transitions[at]))
        self.assertEqual(Machine.read("machine a\n- 2\n+ 1\n- 3\n+ 0").transitions, ((2,), (1,), (3,), (0,)))
        self.check_lines((*OPEN_READERS, *CLOSED_READERS), 0, lines[1], lines[0], *lines[2:])
        self.check_lines((*OPEN_READERS, *CLOSED_READERS), 1, lines[0], *lines)

    def test_the_limit_of_states(self):
        for line in ("+ 0", "- 599"):
            text = "machine a" + f"\n{line}" * 600
            self.assertEqual(Machine.read(text).size, 600)
            self.assertEqual(Complete.read(text).size, 600)
            self.check((*OPEN_READERS, *CLOSED_READERS), 601, f"{text}\n{line}")
            self.check((*OPEN_READERS, *CLOSED_READERS), 601, f"{text}\n{line}\n{line}")
        self.check((*OPEN_READERS, *CLOSED_READERS), 600, "machine a" + "\n- 599" * 599)


if __name__ == "__main__":
    unittest.main()
