"""The pairs of two machines: the points with which separators are found."""

from wordfit.errors import NotApart
from wordfit.joint import check_compared, joint_words, next_pairs
from wordfit.points import Points
from wordfit.states import mark_at
from wordfit.tables import rows_leading_to


def pair_mark(one, other, pair):
    """Return the mark of a pair of states that the two machines do not both answer with True."""
    if mark_at(one, pair[0]) is True:
        return True
    return False if mark_at(other, pair[1]) is True else None


def pair_rows(one, other, pairs):
    """Return for each pair a list of the numbers of the next pairs, None for a pair that is none of these pairs."""
    numbers = {pair: number for number, pair in enumerate(pairs)}
    return [[numbers.get(following) for following in next_pairs(one, other, pair)] for pair in pairs]


class Pairs(Points):
    """The pairs of states of two machines from which some word leads to a pair with a mark."""

    def __init__(self, one, other):
        check_compared(one, other)
        words = joint_words(one, other)
        for pair, word in words.items():
            if mark_at(one, pair[0]) is True and mark_at(other, pair[1]) is True:
                raise NotApart(word)
        reached = list(words)
        aims = [pair_mark(one, other, pair) is not None for pair in reached]
        leading = rows_leading_to(pair_rows(one, other, reached), aims)
        # The start is a point anyway.
        pairs = [pair for number, pair in enumerate(reached) if number == 0 or leading[number]]
        marks = [pair_mark(one, other, pair) for pair in pairs]
        super().__init__(one.letters, pair_rows(one, other, pairs), marks)
        self._pairs = tuple(pairs)
        self._words = tuple([words[pair] for pair in pairs])

    @property
    def pairs(self):
        """The pairs, a tuple of tuples; None stands for a machine that was left."""
        return self._pairs

    @property
    def words(self):
        """The least word of each pair, a tuple."""
        return self._words
