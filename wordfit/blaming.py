"""Reasons for the least size of a sample: cores and faults."""

from itertools import combinations

from wordfit.errors import TooLarge
from wordfit.limits import FAULTS
from wordfit.points import Prefixes
from wordfit.samples import Sample
from wordfit.search import check_size, least_size
from wordfit.trees import case_tree, check_tree
from wordfit.words import word_order


def blamed_size(sample, most):
    """Return the least size of the sample. Raise an error if it is greater than `most`."""
    size = least_size(Prefixes(sample), most)
    if size is None:
        raise TooLarge(most)
    return size


def fits_below(sample, size):
    """Return whether a machine with fewer states fits the sample."""
    return size > 1 and least_size(Prefixes(sample), size - 1) is not None


def sample_words(sample):
    """Return the list of the words of the sample, in word order."""
    return word_order(sample.yes + sample.no)


def blame(sample, most):
    """Return the tuple of a core of the sample and the case tree for one state less."""
    size = blamed_size(sample, most)
    core = sample
    for word in sample_words(sample)[::-1]:
        rest = core.without(word)
        # With fewer words the least size never grows.
        if not fits_below(rest, size):
            core = rest
    return (core, case_tree(Prefixes(core), size - 1) if size > 1 else None)


def check_blame(sample, most, value):
    """Return whether the value is a tuple of a core of the sample and a tree that shows its least size."""
    size = blamed_size(sample, most)
    if not isinstance(value, tuple) or len(value) != 2 or not isinstance(value[0], Sample):
        return False
    core, tree = value
    if not is_part(core, sample) or not is_shown(core, size, tree):
        return False
    return all([fits_below(core.without(word), size) for word in core.yes + core.no])


def is_part(core, sample):
    """Return whether the words of a sample are words of the other one, with the same marks."""
    return core.letters == sample.letters and all([core.mark(word) == sample.mark(word) for word in core.yes + core.no])


def is_shown(core, size, tree):
    """Return whether any value is what shows that a part of a sample of this least size has this least size, too."""
    if size == 1:
        return tree is None
    return check_tree(Prefixes(core), size - 1, tree)


def faults(sample, size):
    """Return the fewest words without which the least size is at most a number, the first ones of several."""
    if sample.size > FAULTS:
        raise TooLarge(FAULTS)
    check_size(Prefixes(sample), size)
    words = sample_words(sample)
    for many in range(len(words)):
        for left_out in combinations(words, many):
            if least_size(Prefixes(sample.without(*left_out)), size) is not None:
                return left_out
    return tuple(words)
