"""Case trees, which show that no machine up to a size fits, and their checker."""

from wordfit.errors import TooLarge
from wordfit.kinds import is_number
from wordfit.limits import NODES
from wordfit.search import check_size, empty_couples, target_count
from wordfit.words import is_word


def case_tree(points, size):
    """Return the case tree for the points and the size, a list of nodes in depth-first order."""
    check_size(points, size)
    nodes = []
    add_nodes(points, empty_couples(points, size), 1, nodes)
    return nodes


def add_nodes(points, couples, states, nodes):
    """Add the node for the machine of the couples, in which so many states were found, and all nodes below it."""
    number = len(nodes)
    if number == NODES:
        raise TooLarge(NODES)
    nodes.append(leaf(points, couples))
    if couples.clash is not None or couples.missing is None:
        return
    children = []
    for target in range(target_count(states, len(couples.rows))):
        children.append(len(nodes))
        choice = couples.choose(target)
        couples.go_on()
        add_nodes(points, couples, max(states, target + 1), nodes)
        couples.drop(choice)
    nodes[number] = ("next", tuple(children))


def leaf(points, couples):
    """Return the leaf for a walk that clashes or ends."""
    if couples.clash is None:
        return ("fit",)
    one, other = couples.clash
    if points.marks[couples.found[one][1]]:
        return ("clash", couples.word_of(one), couples.word_of(other))
    return ("clash", couples.word_of(other), couples.word_of(one))


def check_tree(points, size, value):
    """Return whether the value is a case tree that shows that no machine with at most this size fits."""
    check_size(points, size)
    if not isinstance(value, list):
        return False
    return checked_up_to(points, empty_couples(points, size), 1, value, 0) == len(value)


def checked_up_to(points, couples, states, nodes, number):
    """Check the node with this number, which stands for the machine of the couples, and all nodes below it.

    Return the number of the node behind them, or None if one of them is not there or not as it has to be.
    """
    if number >= len(nodes):
        return None
    if couples.clash is not None:
        return number + 1 if is_clash(points, couples.rows, nodes[number]) else None
    many = target_count(states, len(couples.rows))
    if couples.missing is None or not has_children(nodes[number], many):
        return None
    behind = number + 1
    for target, child in enumerate(nodes[number][1]):
        # No child is None: after a node that is wrong, this returns at the next child or at the end.
        if not is_number(child) or child != behind:
            return None
        choice = couples.choose(target)
        couples.go_on()
        behind = checked_up_to(points, couples, max(states, target + 1), nodes, behind)
        couples.drop(choice)
    return behind


def has_children(node, many):
    """Return whether any value is a node with so many children."""
    if not isinstance(node, tuple) or len(node) != 2 or node[0] != "next":
        return False
    return isinstance(node[1], tuple) and len(node[1]) == many


def is_clash(points, rows, node):
    """Return whether any value is a leaf whose words lead to one state, and to a True and to a False point."""
    if not isinstance(node, tuple) or len(node) != 3 or node[0] != "clash":
        return False
    one = couple_of(points, rows, node[1])
    other = couple_of(points, rows, node[2])
    if one is None or other is None or one[0] != other[0]:
        return False
    return points.marks[one[1]] is True and points.marks[other[1]] is False


def couple_of(points, rows, word):
    """Return the tuple (state, point) to which any value leads, None if it leads to none or is no word."""
    if not is_word(word, points.letters):
        return None
    state, point = 0, 0
    for sign in word:
        letter = points.letters.index(sign)
        state, point = rows[state][letter], points.nexts[point][letter]
        if state is None or point is None:
            return None
    return (state, point)
