"""Points [4] and [54] to [57] and the interface's section wordfit/compare.py."""

import itertools
import random
import types
import unittest

from helpers import (ODD_VALUES, OTHER_TWENTY_ONE, TWENTY, TWENTY_ONE, ErrorCase, all_words, machines_to_compare, order,
                     random_open_machine)
from wordfit import compare
from wordfit.compare import (alike, answer_power, apart_word, check_alike, count_words, least_word, reduced,
                             state_words, words_with)
from wordfit.errors import InvalidLetters, InvalidWord, OutOfRange, TooLarge
from wordfit.limits import COMPARED
from wordfit.machines import Complete, Machine

MARKS = (True, False, None)
M = Machine("ab", ((1, None), (0, 1)), (False, True))
A = Machine("ab", ((1, None), (None, None)), (None, True))
B = Machine("ab", ((None, 1), (None, None)), (None, True))
LIKE_M = Machine("ab", ((1, None), (2, 1), (1, None)), (False, True, False))
MACHINES = [*machines_to_compare("ab", 4), *machines_to_compare("a", 6), *machines_to_compare("abc", 2)]
NO_WORDS = (*ODD_VALUES, None, True, False, "abc", "ba ", b"a", ("a",), ["a", "b"])


def answers(machine, length):
    """The answers to all words of at most this length."""
    return [machine.answer(word) for word in all_words(machine.letters, length)]


def expected_apart(one, other):
    """The least word that parts two machines; with the ways out of them they have so many states at most."""
    for word in all_words(one.letters, one.size + other.size):
        if one.answer(word) is not other.answer(word):
            return word
    return None


def expected_reduced(machine):
    """The reduced machine, whose states are the different answers to all further words."""
    endings = all_words(machine.letters, machine.size)
    classes = {}
    for word in all_words(machine.letters, machine.size):
        future = tuple(machine.answer(word + ending) for ending in endings)
        if word == "" or set(future) != {None}:
            classes.setdefault(future, word)
    words = list(classes.values())
    assert words == sorted(words, key=order)
    rows = []
    for word in words:
        futures = [tuple(machine.answer(word + letter + ending) for ending in endings) for letter in machine.letters]
        rows.append([words.index(classes[future]) if set(future) != {None} else None for future in futures])
    return Machine(machine.letters, rows, [machine.answer(word) for word in words])


def pairs_of(letters):
    """Pairs of machines over these letters."""
    return itertools.product([machine for machine in MACHINES if machine.letters == letters], repeat=2)


def outside(state):
    return -1 if state is None else state


def expected_pairs(one, other):
    """The pairing of the pairs to which words lead."""
    words = all_words(one.letters, one.size + other.size)
    pairs = {(outside(one.run(word)), outside(other.run(word))) for word in words}
    return sorted(pairs - {(-1, -1)})


class ReducedTest(ErrorCase):
    def test_state_words(self):
        for machine in MACHINES:
            expected = [None] * machine.size
            for word in all_words(machine.letters, machine.size):
                if machine.run(word) is not None and expected[machine.run(word)] is None:
                    expected[machine.run(word)] = word
            self.assertEqual(state_words(machine), expected)
            self.assertIs(type(state_words(machine)), list)
        self.assertEqual(state_words(TWENTY), ["a" * many for many in range(20)])

    def test_reduced(self):
        fewer = 0
        for machine in MACHINES:
            found = reduced(machine)
            self.assertEqual(found, expected_reduced(machine))
            self.assertIs(type(found), Machine)
            self.assertEqual(reduced(found), found)
            self.assertEqual(alike(machine, found)[0], "alike")
            self.assertEqual(state_words(found), sorted(state_words(found), key=order))
            fewer += found.size < machine.size
        self.assertGreater(fewer, 20)

    def test_machines_without_any_mark(self):
        for letters in ("a", "abcd"):
            for size in (1, 4):
                machine = Machine(letters, [[(at + 1) % size] * len(letters) for at in range(size)], [None] * size)
                self.assertEqual(reduced(machine), Machine(letters, [[None] * len(letters)], [None]))
        # No word leads to the marked state.
        self.assertEqual(reduced(Machine("a", [[0], [0]], [None, True])), Machine("a", [[None]], [None]))

    def test_a_start_like_another_state(self):
        machine = Complete("ab", [(1, 2), (2, 0), (0, 1)], [True, True, True])
        self.assertEqual(reduced(machine), Machine("ab", [(0, 0)], [True]))
        self.assertEqual(reduced(Machine("a", [(1,), (2,), (3,), (None,)], [None, None, True, None])),
                         Machine("a", [(1,), (2,), (None,)], [None, None, True]))

    def test_states_that_are_numbered_otherwise(self):
        self.assertEqual(reduced(Machine("ab", [(2, 1), (None, 0), (0, 2)], [True, False, None])),
                         Machine("ab", [(1, 2), (0, 1), (None, 0)], [True, None, False]))

    def test_twenty_states(self):
        self.assertEqual(reduced(TWENTY), TWENTY)
        half = Machine("ab", TWENTY.transitions, [at % 10 == 0 for at in range(20)])
        self.assertEqual(reduced(half).size, 10)

    def test_equivalent_exactly_if_the_reduced_machines_are_equal(self):
        for letters in ("a", "ab"):
            for one, other in itertools.islice(pairs_of(letters), 0, None, 3):
                self.assertIs(reduced(one) == reduced(other), alike(one, other)[0] == "alike")


class AlikeTest(ErrorCase):
    def check(self, one, other):
        word = expected_apart(one, other)
        found = alike(one, other)
        self.assertIs(type(found), tuple)
        if word is None:
            self.assertEqual(found, ("alike", expected_pairs(one, other)))
            self.assertIs(type(found[1]), list)
        else:
            self.assertEqual(found, ("apart", word))
        self.assertIs(check_alike(one, other, found), True)
        self.assertEqual(apart_word(one, other), word)
        return found[0]

    def test_the_examples(self):
        self.assertEqual(alike(M, LIKE_M), ("alike", [(0, 0), (0, 2), (1, 1)]))
        self.assertEqual([alike(A, B), apart_word(A, A, M), reduced(A) == A], [("apart", "a"), "", True])

    def test_pairs_of_machines(self):
        kinds = [self.check(one, other) for one, other in itertools.islice(pairs_of("ab"), 0, None, 5)]
        kinds += [self.check(one, other) for one, other in itertools.islice(pairs_of("a"), 0, None, 3)]
        kinds += [self.check(one, one) for one in MACHINES] + [self.check(one, reduced(one)) for one in MACHINES]
        kinds += [self.check(reduced(one), one) for one in MACHINES]
        self.assertGreater(min(kinds.count("alike"), kinds.count("apart")), 50)

    def test_six_states(self):
        chance = random.Random(30)
        for _ in range(15):
            one, other = [random_open_machine(chance, "ab", 6, marks=(True, False)) for _ in "ab"]
            self.check(one, other)
        for _ in range(10):
            one = random_open_machine(chance, "ab", 5)
            states = [0, *chance.sample(range(1, 5), 4)]
            rows = [[None if target is None else states.index(target) for target in one.transitions[state]]
                    for state in states]
            other = Machine("ab", rows, [one.marks[state] for state in states])
            self.assertEqual(self.check(one, other), "alike")

    def test_a_machine_that_words_leave(self):
        # The second machine has states that are not useful where the first one is left.
        one = Machine("a", [(1,), (None,)], [True, False])
        other = Machine("a", [(1,), (2,), (3,), (2,)], [True, False, None, None])
        self.assertEqual(alike(one, other), ("alike", [(-1, 2), (-1, 3), (0, 0), (1, 1)]))
        self.assertEqual(alike(other, one), ("alike", [(0, 0), (1, 1), (2, -1), (3, -1)]))
        self.assertEqual(alike(one, Machine("a", [(1,), (2,), (0,)], [True, False, None])), ("apart", "aaa"))

    def test_twenty_states(self):
        self.assertEqual(alike(TWENTY, TWENTY), ("alike", [(at, at) for at in range(20)]))
        other = Machine("ab", [((at + 1) % 19,) * 2 for at in range(19)], [True] + [False] * 18)
        self.assertEqual(alike(TWENTY, other), ("apart", "a" * 19))
        one, other = [Machine("ab", [((at + 1) % many,) * 2 for at in range(many)], [True] * many) for many in (20, 19)]
        self.assertEqual(len(alike(one, other)[1]), 380)

    def test_each_call_returns_a_new_list(self):
        alike(M, LIKE_M)[1].clear()
        self.assertEqual(alike(M, LIKE_M)[1], [(0, 0), (0, 2), (1, 1)])


class CheckAlikeTest(ErrorCase):
    def check(self, expected, one, other, value):
        before = repr(value)
        self.assertIs(check_alike(one, other, value), expected)
        self.assertEqual(repr(value), before)

    def test_larger_pairings(self):
        # States that no word reaches may be paired, and so may be states and -1.
        one = Machine("a", [(0,), (2,), (1,)], [True, None, None])
        self.check(True, one, one, ("alike", [(0, 0)]))
        for more in ([(1, 1), (2, 2)], [(1, 2), (2, 1)], [(1, -1), (2, -1)], [(1, 1), (1, 2), (2, 1), (2, 2)]):
            self.check(True, one, one, ("alike", [(0, 0), *more]))
        self.check(True, one, one, ("alike", [(-1, 1), (-1, 2), (0, 0)]))
        for more in ([(1, 1)], [(1, 2)], [(1, -1)], [(0, 1)], [(1, 0), (2, 0)]):
            self.check(False, one, one, ("alike", [(0, 0), *more]))
        self.check(False, one, one, ("alike", [(-1, 0), (0, 0)]))

    def test_pairs_left_out_twice_or_in_another_order(self):
        for one, other in ((M, LIKE_M), (LIKE_M, M), (A, A), (TWENTY, TWENTY)):
            pairs = alike(one, other)[1]
            self.check(True, one, other, ("alike", list(pairs)))
            for at in range(len(pairs)):
                self.check(False, one, other, ("alike", pairs[:at] + pairs[at + 1:]))
                self.check(False, one, other, ("alike", pairs[:at + 1] + pairs[at:]))
                if at > 0:
                    self.check(False, one, other, ("alike", [pairs[at], *pairs[:at], *pairs[at + 1:]]))
            self.check(False, one, other, ("alike", []))
            self.check(False, one, other, ("alike", pairs[::-1] if len(pairs) > 1 else []))
            self.check(False, one, other, ("alike", [(-1, -1), *pairs]))

    def test_pairs_beyond_the_states(self):
        pairs = [(0, 0), (0, 2), (1, 1)]
        for wrong in ((2, 0), (0, 3), (-2, 0), (0, -2), (1, 3), (10 ** 60, 0), (0, 10 ** 60)):
            self.check(False, M, LIKE_M, ("alike", sorted([*pairs, wrong])))

    def test_other_kinds_of_pairs(self):
        for value in ([[0, 0], [0, 2], [1, 1]], [(0, 0), (0, 2), [1, 1]], ((0, 0), (0, 2), (1, 1)),
                      [(0, 0), (0, 2), (True, 1)], [(0, 0), (0, 2), (1, True)], [(False, 0), (0, 2), (1, 1)],
                      [(0, False), (0, 2), (1, 1)], [(0, 0), (0, 2), (1, 1, 1)], [(0, 0), (0, 2), (1,)],
                      [(0, 0), (0, 2), "11"], [(0, 0), (0, 2), None], [(0, 0), (0, 2), (1, None)], [(0, 0), (0, 2), 1],
                      [(0, 0), (0, 2), (1, "1")], {(0, 0): 1}, None, 0, "", "alike", True):
            self.check(False, M, LIKE_M, ("alike", value))
        for value in ODD_VALUES:
            self.check(False, M, LIKE_M, ("alike", value))
            self.check(False, M, LIKE_M, ("alike", [value]))
            self.check(value == 1, M, LIKE_M, ("alike", [(0, 0), (0, 2), (1, value)]))

    def test_marks_and_further_pairs(self):
        # The pairs (0, 1) and (1, 0) have different marks.
        self.check(False, M, M, ("alike", [(0, 0), (0, 1), (1, 0), (1, 1)]))
        self.check(False, A, B, ("alike", [(0, 0)]))
        self.check(False, A, B, ("alike", [(-1, 1), (0, 0), (1, -1)]))
        one, other = [Machine("a", [(1,), (None,)], [True, mark]) for mark in (None, False)]
        self.check(False, one, other, ("alike", [(0, 0), (1, 1)]))
        self.check(False, one, Machine("a", [(None,)], [True]), ("alike", [(0, 0)]))
        self.check(True, one, Machine("a", [(None,)], [True]), ("alike", [(0, 0), (1, -1)]))

    def test_all_pairings_of_two_small_machines(self):
        one, other = Machine("a", [(1,), (0,)], [True, None]), Machine("a", [(1,), (0,), (2,)], [True, None, None])
        pairs = list(itertools.product(range(-1, 2), range(-1, 3)))
        found = 0
        for chosen in itertools.product((True, False), repeat=len(pairs)):
            value = [pair for pair, kept in zip(pairs, chosen) if kept]
            marks = all((None if a < 0 else one.marks[a]) is (None if b < 0 else other.marks[b]) for a, b in value)
            nexts = [(-1 if a < 0 else one.transitions[a][0], -1 if b < 0 else other.transitions[b][0])
                     for a, b in value]
            expected = (0, 0) in value and (-1, -1) not in value and marks and all(
                pair in value or pair == (-1, -1) for pair in nexts)
            found += expected
            self.assertIs(check_alike(one, other, ("alike", value)), expected)
        self.assertGreater(found, 1)

    def test_words_that_part_the_machines_and_words_that_do_not(self):
        for one, other in itertools.islice(pairs_of("ab"), 0, None, 23):
            for word in all_words("ab", 4):
                self.check(one.answer(word) is not other.answer(word), one, other, ("apart", word))
        self.check(True, A, B, ("apart", "b"))
        self.check(True, TWENTY, A, ("apart", "ab" * 30))
        self.check(False, M, LIKE_M, ("apart", ""))
        for value in NO_WORDS:
            self.check(False, A, B, ("apart", value))

    def test_other_values(self):
        pairs = [(0, 0), (0, 2), (1, 1)]
        for value in (["alike", pairs], ("alike",), ("alike", pairs, None), ("alike", pairs, pairs), ("Alike", pairs),
                      (pairs, "alike"), ("apart", pairs), pairs, {"alike": pairs}, (True, pairs), (None, pairs),
                      (("alike", pairs),), ("", pairs), (["alike"], pairs), "alike", ("alike", "a")):
            self.check(False, M, LIKE_M, value)
        for value in (["apart", "a"], ("apart",), ("apart", "a", "b"), ("alike", "a"), ("", "a"), "a", ("a", "apart"),
                      ("apart", ["a"]), ("apart", ("a",)), ("apart", None)):
            self.check(False, A, B, value)
        for value in (*ODD_VALUES, None, True, False, "", ()):
            self.check(False, M, LIKE_M, value)
            self.check(False, A, B, value)
            self.check(False, M, LIKE_M, (value, pairs))


class ApartWordTest(ErrorCase):
    def test_one_to_four_machines(self):
        chance = random.Random(31)
        for letters in ("a", "ab"):
            machines = [machine for machine in MACHINES if machine.letters == letters]
            for many in (1, 2, 3, 4):
                for _ in range(40):
                    some = [chance.choice(machines) for _ in range(many)]
                    if chance.random() < 0.5:
                        some = [chance.choice((some[0], reduced(some[0]))) for _ in some[1:]] + some[-1:]
                    words = all_words(letters, 8 if letters == "ab" else 12)
                    expected = [word for word in words if len({str(machine.answer(word)) for machine in some}) > 1]
                    self.assertEqual(apart_word(*some), expected[0] if expected else None)

    def test_one_machine(self):
        for machine in MACHINES:
            self.assertIsNone(apart_word(machine))

    def test_the_least_of_several_words(self):
        one, other = Machine("ab", [(0, None)], [True]), Machine("ab", [(None, 0)], [True])
        self.assertEqual(apart_word(one, one, other), "a")
        self.assertEqual(apart_word(TWENTY, reduced(TWENTY), Machine("ab", [(0, 0)], [True])), "a")
        self.assertIsNone(apart_word(TWENTY, TWENTY, TWENTY, TWENTY))


class CountTest(ErrorCase):
    def test_count_words(self):
        for machine in MACHINES:
            for length in range(5):
                words = [word for word in all_words(machine.letters, length) if len(word) == length]
                for mark in MARKS:
                    expected = sum(machine.answer(word) is mark for word in words)
                    self.assertEqual(count_words(machine, length, mark), expected)
                    self.assertIs(type(count_words(machine, length, mark)), int)

    def test_long_words(self):
        self.assertEqual(count_words(M, 2, True), 1)
        self.assertEqual(count_words(M, 2, None), 2)
        for machine in (*MACHINES, TWENTY):
            for length in (100, 400):
                counts = [count_words(machine, length, mark) for mark in MARKS]
                self.assertEqual(sum(counts), len(machine.letters) ** length)
        self.assertEqual([count_words(TWENTY, 400, mark) for mark in MARKS], [2 ** 400, 0, 0])
        self.assertEqual([count_words(TWENTY, 399, mark) for mark in MARKS], [0, 2 ** 399, 0])
        self.assertEqual([count_words(A, 400, mark) for mark in MARKS], [0, 0, 2 ** 400])
        # Words over "ab" without two letters "b" side by side.
        machine = Machine("ab", [(0, 1), (0, None)], [True, True])
        numbers = [1, 2]
        for _ in range(399):
            numbers.append(numbers[-1] + numbers[-2])
        self.assertEqual([count_words(machine, length, True) for length in range(401)], numbers)

    def test_words_with(self):
        for machine in MACHINES:
            for mark in MARKS:
                for length in (0, 1, 2, 3, 6 if len(machine.letters) < 3 else 4):
                    expected = [word for word in all_words(machine.letters, length) if machine.answer(word) is mark]
                    self.assertEqual(list(words_with(machine, mark, length)), expected)
        self.assertEqual(len(list(words_with(Machine("abcd", [[None] * 4], [True]), None, 6))), 5460)
        self.assertEqual(list(words_with(M, True, 2)), ["a", "ab"])

    def test_words_with_is_a_generator(self):
        first = words_with(M, True, 6)
        self.assertIsInstance(first, types.GeneratorType)
        self.assertEqual(next(first), "a")
        expected = list(words_with(M, True, 6))
        self.assertEqual(["a", *first], expected)
        # The errors come when it is iterated.
        for values in ((M, True, 7), (TWENTY_ONE, True, 1)):
            made = words_with(*values)
            self.assertRaises((OutOfRange, TooLarge), next, made)

    def test_least_word(self):
        for machine in MACHINES:
            for mark in MARKS:
                words = [word for word in all_words(machine.letters, machine.size) if machine.answer(word) is mark]
                self.assertEqual(least_word(machine, mark), words[0] if words else None)
        self.assertEqual(least_word(M, None), "b")
        self.assertEqual([least_word(TWENTY, mark) for mark in MARKS], ["", "a", None])
        last = Machine("ab", TWENTY.transitions, [False] * 19 + [True])
        self.assertEqual(least_word(last, True), "a" * 19)


class AnswerPowerTest(ErrorCase):
    def test_the_examples(self):
        self.assertEqual([answer_power(M, "aa", 10 ** 60, tail="a"), answer_power(M, "ab", 10 ** 60)], [True, None])

    def test_few_times(self):
        for machine in MACHINES:
            for word in all_words(machine.letters, 2):
                for times in (0, 1, 2, 3, 9, 17):
                    self.assertIs(answer_power(machine, word, times), machine.answer(word * times))
                    for tail in ("a", "aa", machine.letters):
                        found = answer_power(machine, word, times, tail=tail)
                        self.assertIs(found, machine.answer(word * times + tail))

    def test_many_times(self):
        chance = random.Random(32)
        for machine in (*MACHINES, TWENTY):
            word = "".join(chance.choice(machine.letters) for _ in range(chance.randrange(6)))
            words = state_words(machine)
            for times in (10 ** 60, 10 ** 60 - 1, 10 ** 59 + 7, 12345):
                seen = [0]
                for _ in range(60):
                    seen.append(None if seen[-1] is None else machine.run(words[seen[-1]] + word))
                cycle = next(many for many in range(1, 22) if seen[21] == seen[21 + many])
                # After 21 times, the states come again in turn.
                state = seen[21 + (times - 21) % cycle]
                self.assertIs(answer_power(machine, word, times), None if state is None else machine.marks[state])

    def test_rings(self):
        for times in range(50):
            self.assertIs(answer_power(TWENTY, "ab", times, tail="aa"), times % 10 == 9)
        self.assertIs(answer_power(TWENTY, "aba", 10 ** 60), True)
        self.assertIs(answer_power(TWENTY, "aba", 10 ** 60 - 1), False)
        self.assertIs(answer_power(TWENTY, "aba", 10 ** 60 - 1, tail="bbb"), True)
        self.assertIs(answer_power(TWENTY, "", 10 ** 60), True)
        self.assertIs(answer_power(TWENTY, "", 10 ** 60, tail="a"), False)
        tail = Machine("a", [(at + 1,) for at in range(19)] + [(17,)], [at == 18 for at in range(20)])
        self.assertEqual([answer_power(tail, "a", times) for times in range(16, 25)],
                         [False, False, True, False, False, True, False, False, True])

    def test_long_words(self):
        self.assertIs(answer_power(TWENTY, "ab" * 1000, 10 ** 60, tail="b" * 2000), True)
        self.assertIs(answer_power(TWENTY, "ab" * 1000 + "a", 10 ** 60, tail="b" * 2001), False)

    def test_words_that_are_none(self):
        for word in NO_WORDS:
            self.assert_error(InvalidWord(word), answer_power, M, word, 1)
            self.assert_error(InvalidWord(word), answer_power, M, word, -1, tail="c")
            self.assert_error(InvalidWord(word), answer_power, M, "a", 1, tail=word)
            self.assert_error(InvalidWord(word), answer_power, M, "a", -1, tail=word)

    def test_times(self):
        for times in (-1, 10 ** 60 + 1, 10 ** 61 - 1, -10 ** 60, True, False, "1", "", None, (), [1], {}):
            self.assert_error(OutOfRange(times), answer_power, M, "a", times)
            self.assert_error(OutOfRange(times), answer_power, M, "a", times, tail="b")

    def test_the_tail_is_passed_by_name_only(self):
        self.assertRaises(TypeError, answer_power, M, "a", 1, "a")


class ErrorsTest(ErrorCase):
    def test_too_many_states(self):
        for other in (TWENTY_ONE, Machine("ab", [(0, 0)] * 600, [True] * 600)):
            for expected, machines in ((TooLarge(COMPARED), (M, other)), (TooLarge(COMPARED), (other, M))):
                self.assert_error(expected, alike, *machines)
                self.assert_error(expected, check_alike, *machines, ("apart", ""))
                self.assert_error(expected, check_alike, *machines, None)
                self.assert_error(expected, apart_word, *machines)
            self.assert_error(TooLarge(COMPARED), apart_word, M, TWENTY, other)
            self.assert_error(TooLarge(COMPARED), apart_word, other)
            for function, values in ((state_words, ()), (reduced, ()), (count_words, (-1, True)),
                                     (count_words, (1, True)), (least_word, (True,)), (answer_power, ("c", -1)),
                                     (answer_power, ("a", 1))):
                self.assert_error(TooLarge(COMPARED), function, other, *values)
            for length in (-1, 2, 7):
                self.assert_error(TooLarge(COMPARED), lambda: list(words_with(other, True, length)))
        for function, values in ((state_words, ()), (reduced, ()), (count_words, (1, True)), (least_word, (True,)),
                                 (answer_power, ("a", 1)), (apart_word, (TWENTY,)), (alike, (TWENTY,))):
            function(TWENTY, *values)

    def test_different_letters_come_first(self):
        for one, other in ((TWENTY_ONE, OTHER_TWENTY_ONE), (A, OTHER_TWENTY_ONE), (A, Machine("b", [[0]], [True])),
                           (A, Machine("abc", [[0] * 3], [True])), (TWENTY_ONE, Machine("a", [[0]], [None]))):
            for machines in ((one, other), (other, one)):
                self.assert_error(InvalidLetters(), alike, *machines)
                self.assert_error(InvalidLetters(), check_alike, *machines, None)
                self.assert_error(InvalidLetters(), check_alike, *machines, ("apart", ""))
                self.assert_error(InvalidLetters(), apart_word, *machines)
            self.assert_error(InvalidLetters(), apart_word, one, one, other)
            self.assert_error(InvalidLetters(), apart_word, one, TWENTY_ONE, one, other)

    def test_lengths(self):
        for length in (-1, 401, 10 ** 60, True, False, "1", None, (), [], {}):
            self.assert_error(OutOfRange(length), count_words, M, length, True)
        for length in (-1, 7, 10 ** 60, True, False, "1", None, (), [], {}):
            self.assert_error(OutOfRange(length), lambda: list(words_with(M, True, length)))

    def test_by_name(self):
        self.assertEqual(state_words(machine=M), ["", "a"])
        self.assertEqual(reduced(machine=A), A)
        self.assertEqual(alike(other=B, one=A), ("apart", "a"))
        self.assertIs(check_alike(value=("apart", "a"), other=B, one=A), True)
        self.assertEqual(count_words(mark=True, length=2, machine=M), 1)
        self.assertEqual(list(words_with(length=2, mark=True, machine=M)), ["a", "ab"])
        self.assertEqual(least_word(mark=None, machine=M), "b")
        self.assertIs(answer_power(tail="a", times=2, word="aa", machine=M), True)

    def test_what_is_defined_here(self):
        for function in (state_words, reduced, alike, check_alike, apart_word, count_words, words_with, least_word,
                         answer_power):
            self.assertEqual(function.__module__, compare.__name__)


if __name__ == "__main__":
    unittest.main()
