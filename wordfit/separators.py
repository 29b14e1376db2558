"""Machines that separate two machines."""

from wordfit.joint import check_compared, joint_words
from wordfit.pairs import Pairs
from wordfit.search import first_fit
from wordfit.states import mark_at
from wordfit.words import word_order


def separator(one, other, most):
    """Return the first separator of least size, or None if this size is greater than `most`."""
    return first_fit(Pairs(one, other), most)


def separates(machine, one, other):
    """Return whether the machine separates `one` from `other`."""
    return first_mistake(machine, one, other) is None


def first_mistake(machine, one, other):
    """Return the least mistake of the machine, None if there is none."""
    check_compared(machine, one, other)
    mistakes = word_order(wrong_words(machine, one, True) + wrong_words(machine, other, False))
    return mistakes[0] if mistakes != [] else None


def wrong_words(machine, other, mark):
    """Return a list of the least word that the other machine answers True, and the machine not with the mark.

    The list is empty if there is none.
    """
    for pair, word in joint_words(machine, other).items():
        if mark_at(other, pair[1]) is True and mark_at(machine, pair[0]) != mark:
            return [word]
    return []
