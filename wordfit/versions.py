"""Versions: the complete machines of least size that fit."""

from wordfit.errors import InvalidWord, NotVersion, OutOfRange, TooLarge
from wordfit.families import Family
from wordfit.kinds import is_number
from wordfit.machines import Machine
from wordfit.points import fits_points, restricted
from wordfit.search import fits, least_size
from wordfit.tables import first_open_row
from wordfit.words import is_word, words_up_to


class Versions:
    """The versions of points. They never change."""

    LONGEST = 4

    def __init__(self, points, most):
        size = least_size(points, most)
        if size is None:
            raise TooLarge(most)
        self._points = points
        self._size = size
        # For each fit its family, the number of its first version, and its number.
        self._families = []
        self._starts = []
        self._numbers = {}
        self._total = 0
        for fit in fits(points, size):
            family = Family(fit)
            self._numbers[fit.transitions] = len(self._families)
            self._families.append(family)
            self._starts.append(self._total)
            self._total += family.many

    @property
    def size(self):
        """The least size."""
        return self._size

    @property
    def total(self):
        """The number of versions."""
        return self._total

    def machine_at(self, number):
        """Return the version with this number."""
        if not is_number(number) or not 0 <= number < self._total:
            raise OutOfRange(number)
        at = 0
        while number >= self._starts[at] + self._families[at].many:
            at += 1
        return self._families[at].member(number - self._starts[at])

    def number_of(self, machine):
        """Return the number of the version that is equal to the machine."""
        if not self._may_be_version(machine):
            raise NotVersion()
        # A complete machine of least size that fits is a version, perhaps with other numbers for its states.
        at = self._numbers[restricted(machine, self._points).transitions]
        number = self._families[at].place(machine)
        if self._families[at].member(number) != machine:
            raise NotVersion()
        return self._starts[at] + number

    def _may_be_version(self, machine):
        """Return whether any value is a complete machine of least size that fits."""
        if not isinstance(machine, Machine) or machine.letters != self._points.letters or machine.size != self._size:
            return False
        return first_open_row(machine.transitions, machine.marks) is None and fits_points(machine, self._points)

    def machines(self):
        """Yield all versions in their order."""
        for family in self._families:
            for number in range(family.many):
                yield family.member(number)

    def answers(self, word):
        """Return the tuple of how many versions answer True, and how many False."""
        if not is_word(word, self._points.letters):
            raise InvalidWord(word)
        indexes = [self._points.letters.index(letter) for letter in word]
        votes = [family.votes(indexes) for family in self._families]
        return (sum([vote[0] for vote in votes]), sum([vote[1] for vote in votes]))

    def certain(self, word):
        """Return the answer that all versions give, None if they give different ones."""
        true, false = self.answers(word)
        if true > 0 and false > 0:
            return None
        return true > 0

    def question(self, length):
        """Return the tuple of the question for this length, and its two numbers of answers."""
        if not is_number(length) or not 0 <= length <= self.LONGEST:
            raise OutOfRange(length)
        best = None
        for word in words_up_to(self._points.letters, length):
            true, false = self.answers(word)
            if best is None or max(true, false) < max(best[1], best[2]):
                best = (word, true, false)
        return best
