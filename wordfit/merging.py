"""The merging of the prefixes of a sample."""

from wordfit.machines import Machine
from wordfit.points import Prefixes


class Grouping:
    """Classes of prefixes, which are given by their numbers in word order.

    The leader of a class is its least prefix. Merges can be taken back, from the last one on.
    """

    def __init__(self, points):
        self._leaders = list(range(points.size))
        # For each leader, a next prefix of its class by each letter, and the mark of its class.
        self._rows = [list(row) for row in points.nexts]
        self._signs = list(points.marks)
        self._joins = []

    def leader(self, number):
        """Return the leader of a prefix's class."""
        while self._leaders[number] != number:
            number = self._leaders[number]
        return number

    def class_row(self, leader):
        """Return for each letter the leader of the class of the next prefixes, None if there are none."""
        return [None if following is None else self.leader(following) for following in self._rows[leader]]

    def class_mark(self, leader):
        """Return the mark of the words in a class."""
        return self._signs[leader]

    def merge(self, one, other):
        """Merge the classes of two prefixes. Return how many joins this takes, None if it clashes and is not done."""
        before = len(self._joins)
        waiting = [(one, other)]
        while waiting != []:
            pair = waiting.pop()
            lesser, greater = sorted([self.leader(pair[0]), self.leader(pair[1])])
            if lesser == greater:
                continue
            if self._clashes(lesser, greater):
                self._split(before)
                return None
            waiting.extend(self._join(lesser, greater))
        return len(self._joins) - before

    def joins(self, one, other):
        """Return what `merge` would return, without merging."""
        many = self.merge(one, other)
        if many is not None:
            self._split(len(self._joins) - many)
        return many

    def _clashes(self, lesser, greater):
        """Return whether one of the two classes has a True word and the other one a False word."""
        return None not in (self._signs[lesser], self._signs[greater]) and self._signs[lesser] != self._signs[greater]

    def _join(self, lesser, greater):
        """Join two classes. Return the list of the pairs of next prefixes that have to be joined then."""
        own, further = self._rows[lesser], self._rows[greater]
        self._joins.append((lesser, greater, own, self._signs[lesser]))
        self._leaders[greater] = lesser
        self._rows[lesser] = [further[at] if following is None else following for at, following in enumerate(own)]
        if self._signs[lesser] is None:
            self._signs[lesser] = self._signs[greater]
        return [(following, further[at]) for at, following in enumerate(own)
                if following is not None and further[at] is not None]

    def _split(self, many):
        """Take back all joins but the first ones, of which there are so many."""
        while len(self._joins) > many:
            lesser, greater, row, sign = self._joins.pop()
            self._leaders[greater] = greater
            self._rows[lesser] = row
            self._signs[lesser] = sign


class Merger:
    """Merges the prefixes of a sample; each candidate with the least red prefix that does not clash."""

    def __init__(self, sample):
        points = Prefixes(sample)
        grouping = Grouping(points)
        red = [0]
        pairs = []
        for number in range(1, points.size):
            # All lesser prefixes lie in classes of red ones by now, and so does the beginning of this one without its
            # last letter. So the first prefix that is the leader of its class, and not red, is the least candidate.
            if grouping.leader(number) != number:
                continue
            partner = self._partner(grouping, red, number)
            if partner is None:
                red.append(number)
                pairs.append((points.words[number], None))
            else:
                grouping.merge(partner, number)
                pairs.append((points.words[number], points.words[partner]))
        self._pairs = pairs
        self._red = tuple([points.words[number] for number in red])
        self._result = grouped_machine(sample.letters, grouping, red)

    def _partner(self, grouping, red, candidate):
        """Return the red prefix with whose class that of the candidate is merged, None if there is none."""
        for number in red:
            if grouping.joins(number, candidate) is not None:
                return number
        return None

    def steps(self):
        """Yield the pairs (candidate, red prefix); None in the place of the red prefix if the candidate becomes red."""
        for pair in self._pairs:
            yield pair

    @property
    def red(self):
        """The red prefixes at the end, a tuple in word order."""
        return self._red

    def result(self):
        """Return the machine whose states are the classes at the end."""
        return self._result


class ScoredMerger(Merger):
    """Merges each candidate with the red prefix after whose merge there are fewest classes, the least of these."""

    def _partner(self, grouping, red, candidate):
        """Return the red prefix with whose class that of the candidate is merged, None if there is none."""
        best = None
        most = 0
        for number in red:
            many = grouping.joins(number, candidate)
            if many is not None and many > most:
                best, most = number, many
        return best


def grouped_machine(letters, grouping, red):
    """Return the machine whose states are the classes of the red prefixes."""
    states = {number: state for state, number in enumerate(red)}
    rows = [[None if leader is None else states[leader] for leader in grouping.class_row(number)] for number in red]
    return Machine(letters, rows, [grouping.class_mark(number) for number in red])


def merged(sample):
    """Return the machine to which the sample is merged."""
    return Merger(sample).result()
