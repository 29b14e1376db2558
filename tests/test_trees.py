"""Points [16], [18] and [19] and the interface's section wordfit/trees.py."""

import copy
import random
import unittest

from helpers import NO_SIZES, ErrorCase, NaiveWalk, all_words, random_points, rings
from wordfit import trees
from wordfit.errors import OutOfRange, TooLarge
from wordfit.limits import CHOICES, NODES, POINTS
from wordfit.points import Points, Prefixes
from wordfit.samples import Sample
from wordfit.search import count_fits, fits, least_size
from wordfit.trees import case_tree, check_tree

EXAMPLE = Prefixes(Sample("a", ["a"], [""]))
# No machine with one state fits, but some with two states do.
TWO = Prefixes(Sample("ab", ["a", "b"], ["", "ab"]))
# No machine with two states fits.
THREE = Prefixes(Sample("ab", ["aa", "b"], ["", "a", "ba"]))
RING = Points("ab", [(1, 2), (2, 0), (0, 1)], [True, False, None])
# Their trees for size 4 have exactly 2000 and 2001 nodes.
MOST = Points("ab", ((None, 1), (0, 4), (0, None), (5, 4), (1, 3), (3, 1)), (False, False, None, None, None, True))
BEYOND = Points("ab", ((4, 1), (1, 3), (1, 1), (0, 0), (None, 2)), (None, True, False, None, True))

# No machine with four states fits, and the tree has 2307 nodes.
LARGE = Points("ab", ((2, 5), (1, 0), (4, 4), (6, 6), (1, 5), (5, 6), (4, 3)),
               (None, True, None, None, False, None, None))


def first_clash(walk, over):
    """The words of the first clash of a walk, the word of the True point first; None if there is no clash."""
    for later, (state, point) in enumerate(walk.couples):
        for earlier, (other, place) in enumerate(walk.couples[:later]):
            if other == state and {over.marks[place], over.marks[point]} == {True, False}:
                words = [walk.words[earlier], walk.words[later]]
                return words if over.marks[place] else words[::-1]
    return None


def expected_tree(over, size):
    """The case tree, by walking anew for each node."""
    nodes = []

    def grow(rows):
        walk = NaiveWalk(rows, over)
        number = len(nodes)
        nodes.append(("fit",))
        clash = first_clash(walk, over)
        if clash:
            nodes[number] = ("clash", *clash)
        elif walk.stopped:
            state, letter = walk.stopped
            children = []
            for target in range(min(size, len({found for found, _ in walk.couples}) + 1)):
                children.append(len(nodes))
                grow([[target if (at, sign) == (state, letter) else old for sign, old in enumerate(row)]
                      for at, row in enumerate(rows)])
            nodes[number] = ("next", tuple(children))
    grow([[None] * len(over.letters) for _ in range(size)])
    return nodes


class CaseTreeTest(ErrorCase):
    def test_the_example(self):
        self.assertEqual(case_tree(EXAMPLE, 1), [("next", (1,)), ("clash", "a", "")])

    def test_one_node(self):
        for over in (Prefixes(Sample("ab")), Prefixes(Sample("ab", [""])), Points("a", [[None], [0]], [True, False])):
            for size in (1, 2, 4):
                self.assertEqual(case_tree(over, size), [("fit",)])

    def test_fit_leaves(self):
        self.assertEqual(case_tree(EXAMPLE, 2), [("next", (1, 2)), ("clash", "a", ""), ("fit",)])
        self.assertEqual(case_tree(Prefixes(Sample("a", ["a"])), 3), [("next", (1, 2)), ("fit",), ("fit",)])

    def test_depth_first(self):
        self.assertEqual(case_tree(Prefixes(Sample("a", ["aa"], [""])), 2),
                         [("next", (1, 2)), ("clash", "aa", ""), ("next", (3, 4)), ("clash", "aa", ""), ("fit",)])
        self.assertEqual(case_tree(Prefixes(Sample("ab", ["a"], ["b"])), 2),
                         [("next", (1, 4)), ("next", (2, 3)), ("clash", "a", "b"), ("fit",),
                          ("next", (5, 6)), ("fit",), ("clash", "a", "b")])

    def test_the_first_clash_of_several(self):
        # By one state, "" and "b", and then "" and "aa", are coupled with different marks.
        self.assertEqual(case_tree(Prefixes(Sample("ab", ["b", "ab"], ["", "aa"])), 1),
                         [("next", (1,)), ("next", (2,)), ("clash", "b", "")])
        # The later couple is the same, and the partner is the one that was found first.
        over = Prefixes(Sample("ab", ["", "a", "b"], ["aa"]))
        self.assertEqual(case_tree(over, 1), [("next", (1,)), ("next", (2,)), ("clash", "", "aa")])
        over = Prefixes(Sample("ab", ["aab"], ["a", "b", "aa"]))
        self.assertEqual(case_tree(over, 1), [("next", (1,)), ("next", (2,)), ("clash", "aab", "a")])

    def test_points_with_rings(self):
        for size in (1, 2):
            self.assertEqual(case_tree(RING, size), expected_tree(RING, size))

    def test_samples(self):
        chance = random.Random(3)
        for letters, most in (("a", 5), ("ab", 3), ("abc", 2), ("abcd", 1)):
            words = all_words(letters, 3)
            for _ in range(25):
                some = chance.sample(words, min(len(words), 8))
                yes = [word for word in some if chance.random() < 0.5]
                over = Prefixes(Sample(letters, yes, [word for word in some if word not in yes]))
                for size in range(1, most + 1):
                    self.assertEqual(case_tree(over, size), expected_tree(over, size))

    def test_random_points(self):
        chance = random.Random(4)
        for _ in range(60):
            over = random_points(chance, "ab", chance.randrange(1, 7))
            for size in (1, 2):
                self.assertEqual(case_tree(over, size), expected_tree(over, size))
            over = random_points(chance, "a", chance.randrange(1, 7))
            for size in (1, 4):
                self.assertEqual(case_tree(over, size), expected_tree(over, size))

    def test_below_the_least_size_each_leaf_is_a_clash(self):
        for over in (EXAMPLE, TWO, THREE, RING):
            least = least_size(over, 4)
            for size in range(1, 4):
                kinds = {node[0] for node in case_tree(over, size)}
                self.assertIs("fit" in kinds, size >= least)

    def test_nodes(self):
        self.assertEqual(len(case_tree(MOST, 4)), 2000)
        self.assertEqual(case_tree(MOST, 4), expected_tree(MOST, 4))
        self.assertEqual(len(expected_tree(BEYOND, 4)), 2001)
        self.assert_error(TooLarge(NODES), case_tree, BEYOND, 4)
        self.assert_error(TooLarge(NODES), case_tree, Points("ab", [(0, 0)], [None]), 4)

    def test_sixty_points(self):
        over = Points("a", rings(60).nexts, [at == 0 for at in range(60)])
        tree = case_tree(over, 8)
        self.assertEqual(tree, expected_tree(over, 8))
        self.assertTrue(check_tree(over, 8, tree))

    def test_each_call_returns_a_new_list(self):
        first, second = case_tree(THREE, 2), case_tree(THREE, 2)
        self.assertEqual(first, second)
        self.assertIsNot(first, second)
        first.clear()
        self.assertEqual(case_tree(THREE, 2), second)
        self.assertIs(type(second), list)
        self.assertEqual({type(node) for node in second}, {tuple})

    def test_by_name(self):
        tree = case_tree(size=2, points=THREE)
        self.assertEqual(tree, case_tree(THREE, 2))
        self.assertIs(check_tree(value=tree, size=2, points=THREE), True)

    def test_what_is_defined_here(self):
        for function in (case_tree, check_tree):
            self.assertEqual(function.__module__, trees.__name__)


class ErrorsTest(ErrorCase):
    def check(self, expected, over, size):
        self.assert_error(expected, case_tree, over, size)
        for value in ([], None, [("fit",)]):
            self.assert_error(expected, check_tree, over, size, value)

    def test_sizes(self):
        for size in NO_SIZES:
            self.check(OutOfRange(size), EXAMPLE, size)
            self.check(OutOfRange(size), rings(61), size)

    def test_points(self):
        self.check(TooLarge(POINTS), rings(61), 1)
        self.check(TooLarge(POINTS), rings(61), 9)
        self.assertEqual(case_tree(rings(60), 1), [("next", (1,)), ("fit",)])

    def test_choices(self):
        for letters, size in (("a", 8), ("ab", 4), ("abc", 2), ("abcd", 2)):
            self.check(TooLarge(CHOICES), rings(60, letters), size + 1)
            self.assertIs(check_tree(rings(60, letters), size, []), False)


class CheckTreeTest(ErrorCase):
    """Each tree that is changed is checked twice: it must be as it was afterwards."""

    def check(self, expected, over, size, value):
        before = copy.deepcopy(value)
        self.assertIs(check_tree(over, size, value), expected)
        self.assertEqual(repr(value), repr(before))
        self.assertIs(check_tree(over, size, value), expected)

    def test_trees_of_case_tree(self):
        chance = random.Random(5)
        true = 0
        for _ in range(150):
            over = random_points(chance, "ab", chance.randrange(1, 7))
            for size in (1, 2, 3):
                tree = expected_tree(over, size)
                expected = ("fit",) not in tree
                self.check(expected, over, size, tree)
                self.assertIs(expected, least_size(over, size) is None)
                true += expected
        self.assertGreater(true, 20)

    def test_trees_with_many_nodes(self):
        for over in (MOST, BEYOND):
            for size in (3, 4):
                tree = expected_tree(over, size)
                self.check(("fit",) not in tree, over, size, tree)
        # A tree that case_tree does not return, because it has too many nodes.
        self.assertIsNone(least_size(LARGE, 4))
        self.assert_error(TooLarge(NODES), case_tree, LARGE, 4)
        tree = expected_tree(LARGE, 4)
        self.check(True, LARGE, 4, tree)
        self.check(False, LARGE, 4, tree[:-1])

    def test_other_words_in_a_clash(self):
        over = Prefixes(Sample("ab", ["b", "ab"], ["", "aa"]))
        self.check(True, over, 1, [("next", (1,)), ("next", (2,)), ("clash", "b", "")])
        for word in all_words("ab", 3):
            for other in all_words("ab", 3):
                tree = [("next", (1,)), ("next", (2,)), ("clash", word, other)]
                self.check(word in ("b", "ab") and other in ("", "aa"), over, 1, tree)

    def test_words_of_couples_that_the_walk_has_not_found(self):
        # The walk stops before it finds "aa" and "aaa", because there is no transition by "b".
        over = Prefixes(Sample("ab", ["a", "aaa", "b"], ["", "aa"]))
        self.assertEqual(case_tree(over, 1), [("next", (1,)), ("clash", "a", "")])
        for word in ("a", "aaa"):
            for other in ("", "aa"):
                self.check(True, over, 1, [("next", (1,)), ("clash", word, other)])
        self.check(False, over, 1, [("next", (1,)), ("clash", "b", "")])
        # Words may go around in rings of points.
        over = Points("ab", [(1, 0), (0, None)], [True, False])
        for word, expected in (("", True), ("aa", True), ("a" * 500, True), ("a", False), ("b", False), ("ab", False)):
            self.check(expected, over, 1, [("next", (1,)), ("clash", word, "a")])
            self.check(expected, over, 1, [("next", (1,)), ("clash", "", word + "a")])

    def test_a_word_that_leaves_the_machine_or_the_points(self):
        over = Prefixes(Sample("ab", ["a", "bb"], [""]))
        self.check(True, over, 1, [("next", (1,)), ("clash", "a", "")])
        # "bb" needs a transition that was not chosen; "aa" is no prefix.
        for word in ("bb", "b", "aa", "ba", "c", "", "a ", "aaa"):
            self.check(False, over, 1, [("next", (1,)), ("clash", word, "")])
        for word in ("bb", "b", "aa", "ba", "c", "a", " ", "aaa"):
            self.check(False, over, 1, [("next", (1,)), ("clash", "a", word)])

    def test_words_of_different_states(self):
        over = Prefixes(Sample("a", ["a", "aaaa"], ["", "aa", "aaa"]))
        tree = case_tree(over, 2)
        self.assertEqual(tree, [("next", (1, 2)), ("clash", "a", ""), ("next", (3, 4)), ("clash", "a", "aaa"),
                                ("clash", "a", "aa")])
        # For each leaf the states to which the words of no, one, two, three and four letters lead.
        for at, states in ((1, (0, 0, 0, 0, 0)), (3, (0, 1, 0, 1, 0)), (4, (0, 1, 1, 1, 1))):
            for word in ("a", "aaaa"):
                for other in ("", "aa", "aaa"):
                    changed = [*tree[:at], ("clash", word, other), *tree[at + 1:]]
                    self.check(states[len(word)] == states[len(other)], over, 2, changed)

    def test_wrong_nodes(self):
        tree = case_tree(THREE, 2)
        self.check(True, THREE, 2, tree)
        others = (("fit",), ("next", ()), ("next", (1,)), ("next", (1, 2)), ("next",), ("clash",), ("clash", ""), (),
                  None, "fit", "clash", 0, True, [], ["fit"], {}, ("clash", "", ""), ("clash", None, ""),
                  ("clash", "a", 0), ("clash", ["b"], [""]), ("clash", "b", "", ""), ("next", (1, 2), ()),
                  ("clash", "b", "\xe4"))
        for at in range(len(tree)):
            for other in others:
                if other != tree[at]:
                    self.check(False, THREE, 2, [*tree[:at], other, *tree[at + 1:]])
                self.check(False, THREE, 2, [*tree[:at], other, *tree[at:]])
            self.check(False, THREE, 2, [*tree[:at], *tree[at + 1:]])
            self.check(False, THREE, 2, [*tree[:at], tree[at], *tree[at:]])
            self.check(False, THREE, 2, [*tree[:at], list(tree[at]), *tree[at + 1:]])
            self.check(False, THREE, 2, tree[:at])
        self.check(False, THREE, 2, [*tree, tree[-1]])
        self.check(False, THREE, 2, [*tree, None])

    def test_wrong_clashes(self):
        tree = case_tree(THREE, 2)
        for at, node in enumerate(tree):
            if node[0] == "clash":
                for changed in ((node[0], node[2], node[1]), (node[0], node[1], node[1]), (node[0], node[2], node[2]),
                                ("Clash", *node[1:]), ("fit", *node[1:]), ("next", *node[1:]), node[1:], node + ("",),
                                (node[0], (node[1],), node[2]), (node[0], node[1], [node[2]]), (node[0], None, None)):
                    self.check(False, THREE, 2, [*tree[:at], changed, *tree[at + 1:]])

    def test_wrong_children(self):
        tree = case_tree(THREE, 2)
        for at, node in enumerate(tree):
            if node[0] != "next":
                continue
            children = node[1]
            wrong = [children[::-1], (children[0],) * 2, (children[1],) * 2, (children[0],), children + (len(tree),),
                     (children[0], len(tree)), (children[0], -1), (children[0], None), (children[0], str(children[1])),
                     (children[0], children[1] + 1), (children[0] + 1, children[1]), list(children), (), None,
                     children + (children[1],), (children[0] - len(tree), children[1]), ((children[0],), children[1]),
                     {children[0]: True}, children[0], "12", (at, children[1])]
            for value in wrong:
                self.check(False, THREE, 2, [*tree[:at], ("next", value), *tree[at + 1:]])
            for kind in ("Next", "fit", "clash", None, 1, ("next",)):
                self.check(False, THREE, 2, [*tree[:at], (kind, children), *tree[at + 1:]])
        # The number 1 is not True.
        self.check(True, EXAMPLE, 1, [("next", (1,)), ("clash", "a", "")])
        self.check(False, EXAMPLE, 1, [("next", (True,)), ("clash", "a", "")])
        self.check(False, THREE, 2, [("next", (True, tree[0][1][1])), *tree[1:]])

    def test_a_tree_in_another_order(self):
        # The children of the root in the order in which they are taken last.
        over = Prefixes(Sample("a", ["a", "aaa"], ["", "aa"]))
        tree = case_tree(Prefixes(Sample("a", ["aa"], ["", "a", "aaa"])), 2)
        other = Prefixes(Sample("a", ["aa"], ["", "a", "aaa"]))
        self.assertEqual(tree, [("next", (1, 2)), ("clash", "aa", ""), ("next", (3, 4)), tree[3], tree[4]])
        self.check(True, other, 2, tree)
        self.check(False, other, 2, [("next", (4, 1)), ("next", (2, 3)), tree[3], tree[4], tree[1]])
        self.check(False, other, 2, [("next", (1, 2)), tree[1], ("next", (4, 3)), tree[4], tree[3]])
        self.check(False, over, 2, tree)

    def test_a_clash_below_a_node_where_the_walk_has_one(self):
        over = Prefixes(Sample("a", ["a", "aa"], [""]))
        self.check(True, over, 1, [("next", (1,)), ("clash", "a", "")])
        self.check(False, over, 1, [("next", (1,)), ("next", (2,)), ("clash", "a", "")])
        self.check(False, over, 1, [("clash", "a", "")])

    def test_a_clash_where_the_walk_itself_has_none(self):
        # After the transition 0 by "a" to state 0 was chosen, "aa" leads to a False point, but "b" is missing before.
        over = Points("ab", [(1, 3), (2, None), (None, None), (None, None)], [True, None, False, None])
        tree = case_tree(over, 1)
        self.assertEqual(tree, [("next", (1,)), ("next", (2,)), ("clash", "", "aa")])
        self.check(True, over, 1, tree)
        self.check(False, over, 1, [("next", (1,)), ("clash", "", "aa")])

    def test_fit_leaves(self):
        for size in (2, 3):
            self.check(False, TWO, size, case_tree(TWO, size))
        self.check(False, Prefixes(Sample("ab")), 1, [("fit",)])
        self.check(False, Prefixes(Sample("ab")), 1, [("clash", "", "")])
        self.check(False, Prefixes(Sample("ab")), 1, [("next", (1,)), ("clash", "", "")])
        self.check(False, Prefixes(Sample("ab")), 2, [("next", (1, 2)), ("fit",), ("fit",)])
        self.check(False, EXAMPLE, 2, [("next", (1, 2)), ("clash", "a", ""), ("clash", "a", "")])
        self.check(False, EXAMPLE, 2, [("next", (1, 2)), ("clash", "a", ""), ("next", ())])

    def test_trees_of_another_size_and_for_other_points(self):
        for size, tree in ((1, case_tree(THREE, 2)), (2, case_tree(THREE, 1)), (3, case_tree(THREE, 2))):
            self.check(False, THREE, size, tree)
        self.check(True, THREE, 1, case_tree(THREE, 1))
        self.check(True, TWO, 1, case_tree(EXAMPLE, 1))
        self.check(False, EXAMPLE, 1, case_tree(THREE, 1))

    def test_any_other_value(self):
        tree = case_tree(EXAMPLE, 1)
        for value in (None, True, False, 0, 1, "", "fit", (), tuple(tree), {}, {0: tree[0], 1: tree[1]}, [], [None],
                      [[]], [()], [tree], [0, 1], ["next", "clash"], [list(node) for node in tree],
                      [("next", [1]), tree[1]], tree[:1], tree[1:], tree + tree, tree[::-1], [("fit",)], [{}],
                      [{"next": (1,)}, tree[1]]):
            self.check(False, EXAMPLE, 1, value)

    def test_fits_show_why_there_is_no_tree(self):
        for over in (EXAMPLE, TWO, THREE, RING):
            for size in (1, 2, 3):
                found = sum(count_fits(over, many) for many in range(1, size + 1))
                self.assertIs(check_tree(over, size, case_tree(over, size)), found == 0)
                self.assertEqual(case_tree(over, size).count(("fit",)), found)
                self.assertEqual(len(list(fits(over, size))), count_fits(over, size))


if __name__ == "__main__":
    unittest.main()
