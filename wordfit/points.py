"""Points, which a machine has to fit, and the fits that machines contain."""

from wordfit.couples import Couples
from wordfit.errors import InvalidLetters, InvalidPoints, NotFit
from wordfit.machines import Machine
from wordfit.tables import copied_rows, first_wrong_row, is_table
from wordfit.words import are_letters


class Points:
    """A next point or None for each point and each letter, and a mark for each point. Points never change."""

    def __init__(self, letters, nexts, marks):
        if not are_letters(letters):
            raise InvalidLetters()
        if not is_table(nexts, marks):
            raise InvalidPoints(None)
        wrong = first_wrong_row(letters, nexts, marks)
        if wrong is not None:
            raise InvalidPoints(wrong)
        self._letters = letters
        self._nexts = copied_rows(nexts)
        self._marks = tuple(marks)

    def __eq__(self, other):
        return (isinstance(other, Points) and self._letters == other._letters
                and self._nexts == other._nexts and self._marks == other._marks)

    @property
    def letters(self):
        """The letters, a string."""
        return self._letters

    @property
    def nexts(self):
        """For each point a tuple with the next point or None for each letter, a tuple of tuples."""
        return self._nexts

    @property
    def marks(self):
        """For each point its mark, a tuple."""
        return self._marks

    @property
    def size(self):
        """The number of points."""
        return len(self._marks)


class Prefixes(Points):
    """The points of a sample."""

    def __init__(self, sample):
        words = sample.prefixes
        numbers = {word: number for number, word in enumerate(words)}
        nexts = [[numbers.get(word + letter) for letter in sample.letters] for word in words]
        super().__init__(sample.letters, nexts, [sample.mark(word) for word in words])
        self._words = words

    @property
    def words(self):
        """The prefixes of the sample, a tuple in word order."""
        return self._words


def walked(machine, points):
    """Return the couples that the machine's walk over the points finds."""
    if machine.letters != points.letters:
        raise InvalidLetters()
    couples = Couples(points, machine.transitions)
    couples.go_on()
    return couples


def is_fitted(machine, couples):
    """Return whether the machine fits the points, over which its walk has found these couples."""
    return couples.ended() and all([mark is None or mark == machine.marks[state]
                                    for state, mark in enumerate(couples.found_marks())])


def fits_points(machine, points):
    """Return whether the machine fits the points."""
    return is_fitted(machine, walked(machine, points))


def restricted(machine, points):
    """Return the fit that the machine contains."""
    couples = walked(machine, points)
    if not is_fitted(machine, couples):
        raise NotFit()
    numbers = {}
    for state, _ in couples.found:
        numbers.setdefault(state, len(numbers))
    rows = [[None] * len(points.letters) for _ in numbers]
    for state, letter in couples.needed():
        rows[numbers[state]][letter] = numbers[machine.transitions[state][letter]]
    marks = couples.found_marks()
    return Machine(points.letters, rows, [marks[state] for state in numbers])


def is_fit(machine, points):
    """Return whether the machine is a fit for the points."""
    return fits_points(machine, points) and restricted(machine, points) == machine


def needed_transitions(machine, points):
    """Return the list of (state, letter, target) of a fit's transitions, in the order in which the walk needs them."""
    if not is_fit(machine, points):
        raise NotFit()
    return [(state, points.letters[letter], machine.transitions[state][letter])
            for state, letter in walked(machine, points).needed()]
