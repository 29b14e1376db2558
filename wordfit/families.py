"""Families: the complete machines that contain one machine."""

from wordfit.digits import digits_of, number_with, power
from wordfit.machines import Complete


class Family:
    """The complete machines of one size that contain a machine: what it lacks is chosen freely.

    They are ordered by the targets of the transitions that are missing, in the order of state and letter, then by the
    marks that are missing, in the order of states, False before True. They are numbered from 0.
    """

    def __init__(self, machine):
        self._letters = machine.letters
        self._rows = machine.transitions
        self._signs = machine.marks
        self._gaps = [(state, letter) for state, row in enumerate(machine.transitions)
                      for letter, target in enumerate(row) if target is None]
        self._blanks = [state for state, mark in enumerate(machine.marks) if mark is None]
        self._markings = power(2, len(self._blanks))
        self.many = power(machine.size, len(self._gaps)) * self._markings

    def member(self, number):
        """Return the machine with this number."""
        filling, marking = divmod(number, self._markings)
        targets = digits_of(filling, len(self._rows), len(self._gaps))
        digits = digits_of(marking, 2, len(self._blanks))
        rows = [list(row) for row in self._rows]
        for (state, letter), target in zip(self._gaps, targets):
            rows[state][letter] = target
        marks = list(self._signs)
        for state, digit in zip(self._blanks, digits):
            marks[state] = digit == 1
        return Complete(self._letters, rows, marks)

    def place(self, machine):
        """Return the number of a machine of this family."""
        filling = number_with([machine.transitions[state][letter] for state, letter in self._gaps], machine.size)
        marking = number_with([int(machine.marks[state]) for state in self._blanks], 2)
        return filling * self._markings + marking

    def votes(self, indexes):
        """Return how many machines answer True, and how many False, to the word with letters of these indexes."""
        true, false = 0, 0
        # Ways to choose the transitions that the word needs: the rows, where the word has led, and for how many
        # machines this stands.
        waiting = [(self._rows, 0, 0, self.many)]
        while waiting != []:
            rows, state, taken, many = waiting.pop()
            while taken < len(indexes) and rows[state][indexes[taken]] is not None:
                state = rows[state][indexes[taken]]
                taken += 1
            if taken < len(indexes):
                for target in range(len(rows)):
                    chosen = with_target(rows, state, indexes[taken], target)
                    waiting.append((chosen, target, taken + 1, many // len(rows)))
            elif self._signs[state] is None:
                true += many // 2
                false += many // 2
            elif self._signs[state]:
                true += many
            else:
                false += many
        return (true, false)


def with_target(rows, state, letter, target):
    """Return rows in which the target of one transition is another one."""
    changed = [list(row) for row in rows]
    changed[state][letter] = target
    return changed
