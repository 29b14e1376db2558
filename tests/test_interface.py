"""Points [2] and [3] for the whole program: every function, class and method, by position and by name."""

import inspect
import types
import unittest

from wordfit import (blaming, compare, desk, errors, lessons, machines, merging, notebooks, pairs, points, samples,
                     search, separators, telling, texts, trees, versions, words)
from wordfit.desk import Desk
from wordfit.machines import Complete, Machine
from wordfit.merging import Merger, ScoredMerger
from wordfit.notebooks import Notebook, Strict
from wordfit.pairs import Pairs
from wordfit.points import Points, Prefixes
from wordfit.samples import Sample
from wordfit.trees import case_tree
from wordfit.versions import Versions

S = Sample("a", ["", "aa"], ["a"])
CORE = Sample("a", [""], ["a"])
M = Complete("a", [(1,), (0,)], [True, False])
OPEN = Machine("ab", [(1, None), (1, 0)], [False, True])
A = Machine("ab", [(1, None), (None, None)], [None, True])
B = Machine("ab", [(None, 1), (None, None)], [None, True])
P = Prefixes(S)
FIT = Machine("a", [(1,), (0,)], [True, False])
TREE = case_tree(P, 1)

# What is called, as the interface writes its arguments, and values for these arguments in their order.
CALLS = [
    (errors.InvalidWord, "(word)", ["a"]),
    (errors.TooLarge, "(limit)", [3]),
    (words.word_order, "(words)", [["b", "a", ""]]),
    (Sample, "(letters, yes=(), no=())", ["ab", ["a"], ("b",)]),
    (Sample.read, "(text)", [S.text]),
    (S.mark, "(word)", ["a"]),
    (S.adding, "(*words, mark=True)", ["aaa", "aaaa", False]),
    (S.without, "(*words)", ["a", ""]),
    (Machine, "(letters, transitions, marks)", ["a", [[0]], [None]]),
    (Machine.of_rows, "(letters, *rows)", ["a", (True, 1), (None, None)]),
    (Machine.read, "(text)", [OPEN.text]),
    (OPEN.run, "(word)", ["ab"]),
    (OPEN.answer, "(word)", ["ab"]),
    (OPEN.walk, "(word)", ["aab"]),
    (Complete, "(letters, transitions, marks)", ["a", [[0]], [True]]),
    (Complete.of_rows, "(letters, *rows)", ["a", (True, 1), (False, 0)]),
    (Complete.read, "(text)", [M.text]),
    (Points, "(letters, nexts, marks)", ["a", [[0]], [None]]),
    (Prefixes, "(sample)", [S]),
    (points.fits_points, "(machine, points)", [M, P]),
    (points.restricted, "(machine, points)", [M, P]),
    (points.is_fit, "(machine, points)", [FIT, P]),
    (points.needed_transitions, "(machine, points)", [FIT, P]),
    (search.least_size, "(points, most)", [P, 3]),
    (search.fits, "(points, size)", [P, 2]),
    (search.count_fits, "(points, size)", [P, 2]),
    (search.fit_at, "(points, size, number)", [P, 2, 0]),
    (search.fit_number, "(points, machine)", [P, FIT]),
    (trees.case_tree, "(points, size)", [P, 1]),
    (trees.check_tree, "(points, size, value)", [P, 1, TREE]),
    (Merger, "(sample)", [S]),
    (ScoredMerger, "(sample)", [S]),
    (Merger(S).steps, "()", []),
    (Merger(S).result, "()", []),
    (ScoredMerger(S).steps, "()", []),
    (ScoredMerger(S).result, "()", []),
    (merging.merged, "(sample)", [S]),
    (telling.is_telling, "(machine, sample)", [M, S]),
    (telling.told_sample, "(machine)", [M]),
    (blaming.blame, "(sample, most)", [S, 3]),
    (blaming.check_blame, "(sample, most, value)", [S, 3, (CORE, case_tree(Prefixes(CORE), 1))]),
    (blaming.faults, "(sample, size)", [S, 1]),
    (lessons.is_lesson, "(machine, sample)", [M, S]),
    (lessons.lesson, "(machine)", [M]),
    (Versions, "(points, most)", [P, 3]),
    (Versions(P, 3).machine_at, "(number)", [0]),
    (Versions(P, 3).number_of, "(machine)", [M]),
    (Versions(P, 3).machines, "()", []),
    (Versions(P, 3).answers, "(word)", ["aaa"]),
    (Versions(P, 3).certain, "(word)", ["aaa"]),
    (Versions(P, 3).question, "(length)", [2]),
    (compare.state_words, "(machine)", [OPEN]),
    (compare.reduced, "(machine)", [OPEN]),
    (compare.alike, "(one, other)", [A, B]),
    (compare.check_alike, "(one, other, value)", [A, B, ("apart", "a")]),
    (compare.apart_word, "(machine, *others)", [A, A, B]),
    (compare.count_words, "(machine, length, mark)", [OPEN, 3, True]),
    (compare.words_with, "(machine, mark, length)", [OPEN, None, 3]),
    (compare.least_word, "(machine, mark)", [OPEN, None]),
    (compare.answer_power, "(machine, word, times, *, tail='')", [OPEN, "a", 3, "b"]),
    (Pairs, "(one, other)", [A, B]),
    (separators.separator, "(one, other, most)", [A, B, 2]),
    (separators.separates, "(machine, one, other)", [A, A, B]),
    (separators.first_mistake, "(machine, one, other)", [A, A, B]),
    (Notebook, "(letters)", ["ab"]),
    (Strict, "(letters)", ["ab"]),
    (Notebook.made, "(letters, *entries, greatest=None)", ["ab", ("a", True), ("", False), 2]),
    (Strict.made, "(letters, *entries, greatest=None)", ["ab", ("a", True), ("", False), 2]),
    (Notebook.read, "(text)", ["notebook ab\nmost 3\nyes a"]),
    (Strict.read, "(text)", ["notebook ab\nmost 3\nyes a"]),
    (Desk, "(letters)", ["ab"]),
    (texts.sample_text, "(letters, yes, no)", ["ab", ["a"], [""]]),
    (texts.machine_text, "(letters, transitions, marks)", ["a", [[0]], [True]]),
    (texts.sample_parts, "(text)", [S.text]),
    (texts.machine_parts, "(text, *, may_be_open=True)", [M.text, False]),
]

# Methods that change a notebook or a desk: their names, arguments, and values for these.
CHANGES = [
    ("entries", "()", []),
    ("version_count", "()", []),
    ("version_answers", "(word)", ["b"]),
    ("add", "(word, mark=True)", ["b", False]),
    ("add_all", "(entries)", [[("b", True), ("aa", False)]]),
    ("take_back", "(word)", ["a"]),
    ("turn", "(word)", ["a"]),
    ("undo", "(count=1)", [2]),
    ("redo", "(count=1)", [1]),
    ("set_most", "(value)", [3]),
    ("learn", "(machine, length)", [Complete("ab", [(1, 0), (1, 0)], [False, True]), 2]),
]

# Each class with its methods, class methods and properties, and with its class values.
CLASSES = {
    Sample: "read text letters yes no prefixes size mark adding without",
    Machine: "of_rows read text OPEN letters transitions marks size run answer walk",
    Complete: "OPEN",
    Points: "letters nexts marks size",
    Prefixes: "words",
    Merger: "steps red result",
    ScoredMerger: "",
    Versions: "size total machine_at number_of machines answers certain question LONGEST",
    Pairs: "pairs words",
    Notebook: "letters entries most sample size least merged version_count version_answers add add_all take_back turn "
              "undo redo undoable redoable set_most learn made read text __len__ __eq__",
    Strict: "",
    Desk: "notebook execute run",
}
FILES = {errors: "InvalidWord TooLarge", words: "word_order", samples: "Sample", machines: "Machine Complete",
         points: "Points Prefixes fits_points restricted is_fit needed_transitions",
         search: "least_size fits count_fits fit_at fit_number", trees: "case_tree check_tree",
         merging: "Merger ScoredMerger merged", telling: "is_telling told_sample",
         blaming: "blame check_blame faults", lessons: "is_lesson lesson", versions: "Versions",
         compare: "state_words reduced alike check_alike apart_word count_words words_with least_word answer_power",
         pairs: "Pairs", separators: "separator separates first_mistake", notebooks: "Notebook Strict",
         texts: "sample_text machine_text sample_parts machine_parts", desk: "Desk"}


def shown(value):
    """A value that can be compared, for any result."""
    if isinstance(value, types.GeneratorType):
        return [shown(item) for item in value]
    if isinstance(value, Exception):
        return (type(value), vars(value))
    if isinstance(value, Merger):
        return (type(value), list(value.steps()), value.red, value.result())
    if isinstance(value, Versions):
        return (value.size, value.total, list(value.machines()))
    if isinstance(value, Desk):
        return value.notebook
    return value


def ways(signature, values):
    """The values by position and, where no star is in the way, by name; what follows a star is passed by name."""
    parameters = list(signature.parameters.values())
    keywords = [parameter.name for parameter in parameters if parameter.kind is parameter.KEYWORD_ONLY]
    positional = values[:len(values) - len(keywords)]
    by_name = dict(zip(keywords, values[len(positional):]))
    yield positional, by_name
    if not any(parameter.kind is parameter.VAR_POSITIONAL for parameter in parameters):
        named = dict(zip([parameter.name for parameter in parameters], values))
        yield [], named
        yield [], dict(reversed(named.items()))
        for many in range(1, len(positional)):
            yield positional[:many], dict(list(named.items())[many:])


def notebook_with_steps(cls):
    book = cls("ab")
    book.add_all([("", False), ("a", True)])
    book.add("bb", False)
    book.add("ab", False)
    book.undo()
    return book


class InterfaceTest(unittest.TestCase):
    def check(self, make, call_of, written, values):
        """Call it on new objects, by position and by name: what comes out and what changes is the same."""
        signature = inspect.signature(call_of(make()))
        self.assertEqual(str(signature), written)
        before = repr(values)
        results = []
        for positional, by_name in ways(signature, values):
            made = make()
            results.append((shown(call_of(made)(*positional, **by_name)), shown(made)))
        for result in results:
            self.assertEqual(result, results[0])
        self.assertEqual(repr(values), before)
        if "*, " in written:
            with self.assertRaises(TypeError):
                call_of(make())(*values)

    def test_functions_and_classes(self):
        for call, written, values in CALLS:
            with self.subTest(call=call):
                self.check(lambda: None, lambda _: call, written, values)

    def test_notebooks(self):
        for cls in (Notebook, Strict):
            for name, written, values in CHANGES:
                with self.subTest(name=name):
                    self.check(lambda: notebook_with_steps(cls), lambda book: getattr(book, name), written, values)

    def test_desks(self):
        self.check(lambda: Desk("ab"), lambda made: made.execute, "(line)", ["yes a"])
        self.check(lambda: Desk("ab"), lambda made: made.run, "(*lines)", ["yes a", "words"])

    def test_lists_in_the_place_of_tuples(self):
        for call, _, values in CALLS:
            if call in (Sample, Machine, Complete, Points, words.word_order, texts.sample_text, texts.machine_text):
                for kind in (list, tuple):
                    changed = [value if isinstance(value, str) else kind(value) for value in values]
                    self.assertEqual(call(*changed), call(*values))
        self.assertEqual(Machine.of_rows("a", [True, 0]), Machine.of_rows("a", (True, 0)))
        self.assertEqual(Notebook.made("ab", ["a", True]), Notebook.made("ab", ("a", True)))

    def test_what_each_class_defines(self):
        for cls, names in CLASSES.items():
            for name in names.split():
                with self.subTest(cls=cls.__name__, name=name):
                    self.assertIn(name, vars(cls))

    def test_what_each_file_defines(self):
        for file, names in FILES.items():
            for name in names.split():
                with self.subTest(name=name):
                    self.assertEqual(getattr(file, name).__module__, file.__name__)

    def test_equal_calls_return_new_lists(self):
        for call, _, values in CALLS:
            if call in (words.word_order, points.needed_transitions, trees.case_tree, compare.state_words):
                first = call(*values)
                self.assertIs(type(first), list)
                first.append(None)
                self.assertEqual(len(call(*values)), len(first) - 1)

    def test_errors_of_generators_come_when_they_are_iterated(self):
        for make in (lambda: search.fits(P, 0), lambda: OPEN.walk("c"), lambda: compare.words_with(OPEN, True, -1)):
            made = make()
            self.assertIsInstance(made, types.GeneratorType)
            with self.assertRaises(Exception):
                list(made)

    def test_generators_side_by_side(self):
        for make in (lambda: search.fits(P, 2), lambda: OPEN.walk("aaba"), lambda: compare.words_with(OPEN, True, 3),
                     Versions(Prefixes(CORE), 3).machines, Merger(S).steps, notebook_with_steps(Notebook).entries):
            expected = list(make())
            for one, other in zip(make(), make()):
                self.assertEqual(one, other)
            first = make()
            self.assertEqual(next(first), expected[0])
            self.assertEqual(list(make()), expected)
            self.assertEqual([expected[0], *first], expected)


if __name__ == "__main__":
    unittest.main()
