"""The search for fits."""

from wordfit.couples import Couples
from wordfit.errors import OutOfRange, TooLarge
from wordfit.kinds import is_number
from wordfit.limits import CHOICES, POINTS
from wordfit.machines import Machine
from wordfit.points import needed_transitions


def check_size(points, size):
    """Raise the errors for any value as the size, or the most size, of the machines that are looked for."""
    if not is_number(size) or size < 1:
        raise OutOfRange(size)
    if points.size > POINTS:
        raise TooLarge(POINTS)
    if size * len(points.letters) > CHOICES:
        raise TooLarge(CHOICES)


def empty_couples(points, size):
    """Return the couples of a machine of this size that has no transitions yet."""
    couples = Couples(points, [[None] * len(points.letters) for _ in range(size)])
    couples.go_on()
    return couples


def target_count(states, size):
    """Return how many targets a transition may have: the states that were found and, if these are fewer, a new one."""
    return min(states + 1, size)


class Search:
    """Goes from fit to fit of one size, in ascending order.

    Wherever the walk of the machine stops, a target is chosen, the least one first, and the walk goes on. So the
    targets are chosen in the order in which the walk needs the transitions.
    """

    def __init__(self, points, size):
        self._letters = points.letters
        self._size = size
        self._couples = empty_couples(points, size)
        # For each choice: what takes it back, the target, and how many states were found before it.
        self._choices = []
        self._states = 1
        self._begun = False

    def advance(self):
        """Go to the next fit, at first to the first one. Return False if there is none."""
        going = not self._begun or self._turn()
        self._begun = True
        while going:
            if self._couples.clash is None and self._couples.missing is not None:
                self._choose(0)
            elif self._couples.clash is None and self._states == self._size:
                return True
            else:
                going = self._turn()
        return False

    def _choose(self, target):
        """Choose a target and let the walk go on."""
        self._choices.append((self._couples.choose(target), target, self._states))
        self._states = max(self._states, target + 1)
        self._couples.go_on()

    def _turn(self):
        """Take back the last choice for which there is a greater target, and choose this one. Return False if none."""
        while self._choices != []:
            choice, target, states = self._choices.pop()
            self._couples.drop(choice)
            self._states = states
            if target + 1 < target_count(states, self._size):
                self._choose(target + 1)
                return True
        return False

    def targets(self):
        """Return the targets of the fit, in the order in which its walk needs the transitions."""
        return [choice[1] for choice in self._choices]

    def machine(self):
        """Return the fit."""
        return Machine(self._letters, self._couples.rows, self._couples.found_marks())


def first_fit(points, most):
    """Return the first fit of the least size, or None if this size is greater than `most`."""
    check_size(points, most)
    for size in range(1, most + 1):
        search = Search(points, size)
        if search.advance():
            return search.machine()
    return None


def least_size(points, most):
    """Return the least size of a machine that fits, or None if it is greater than `most`."""
    fit = first_fit(points, most)
    return None if fit is None else fit.size


def fits(points, size):
    """Yield all fits with exactly this size, in ascending order."""
    check_size(points, size)
    search = Search(points, size)
    while search.advance():
        yield search.machine()


def count_fits(points, size):
    """Return the number of fits with exactly this size."""
    check_size(points, size)
    search = Search(points, size)
    number = 0
    while search.advance():
        number += 1
    return number


def fit_at(points, size, number):
    """Return the fit with this number among the fits with exactly this size."""
    check_size(points, size)
    if not is_number(number) or number < 0:
        raise OutOfRange(number)
    search = Search(points, size)
    for _ in range(number + 1):
        if not search.advance():
            raise OutOfRange(number)
    return search.machine()


def fit_number(points, machine):
    """Return the number of a fit among the fits of its size."""
    targets = [transition[2] for transition in needed_transitions(machine, points)]
    check_size(points, machine.size)
    search = Search(points, machine.size)
    number = 0
    while search.advance() and search.targets() != targets:
        number += 1
    return number
