"""Two machines that read the same words."""

from wordfit.errors import InvalidLetters, TooLarge
from wordfit.limits import COMPARED
from wordfit.states import mark_at, row_at


def check_compared(*machines):
    """Raise the errors for machines that cannot be compared."""
    if not all([machine.letters == machines[0].letters for machine in machines]):
        raise InvalidLetters()
    if not all([machine.size <= COMPARED for machine in machines]):
        raise TooLarge(COMPARED)


def next_pairs(one, other, pair):
    """Return for each letter the pair that follows a pair of states; None in it stands for a machine that was left."""
    return list(zip(row_at(one, pair[0]), row_at(other, pair[1])))


def joint_words(one, other):
    """Return a dict with the least word for each pair of states to which a word leads, in word order.

    The pair (None, None) is left out: then a word has left both machines.
    """
    words = {(0, 0): ""}
    order = [(0, 0)]
    taken = 0
    # Pairs are reached in the order of their least words, as shorter words and lesser letters come first.
    while taken < len(order):
        pair = order[taken]
        for letter, following in zip(one.letters, next_pairs(one, other, pair)):
            if following != (None, None) and following not in words:
                words[following] = words[pair] + letter
                order.append(following)
        taken += 1
    return words


def least_apart(one, other):
    """Return the least word to which two machines give different answers, None if there is none."""
    for pair, word in joint_words(one, other).items():
        if mark_at(one, pair[0]) != mark_at(other, pair[1]):
            return word
    return None
