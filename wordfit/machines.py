"""Machines with states, transitions and marks."""

from wordfit.errors import InvalidLetters, InvalidMachine, InvalidWord, NotComplete, TooLarge
from wordfit.kinds import is_sequence
from wordfit.limits import STATES
from wordfit.tables import copied_rows, first_open_row, first_wrong_row, is_table
from wordfit.texts import machine_parts, machine_text
from wordfit.words import are_letters, is_word


class Machine:
    """Transitions and a mark for each state; state 0 is the start. Machines never change."""

    OPEN = True

    def __init__(self, letters, transitions, marks):
        if not are_letters(letters):
            raise InvalidLetters()
        if not is_table(transitions, marks):
            raise InvalidMachine(None)
        if len(marks) > STATES:
            raise TooLarge(STATES)
        wrong = first_wrong_row(letters, transitions, marks)
        if wrong is not None:
            raise InvalidMachine(wrong)
        self._letters = letters
        self._transitions = copied_rows(transitions)
        self._marks = tuple(marks)

    def __eq__(self, other):
        return (isinstance(other, Machine) and self._letters == other._letters
                and self._transitions == other._transitions and self._marks == other._marks)

    @classmethod
    def of_rows(cls, letters, *rows):
        """Return the machine with a row (mark, target, target, ..) for each state."""
        for state, row in enumerate(rows):
            if not is_sequence(row) or len(row) == 0:
                raise InvalidMachine(state)
        return cls(letters, [row[1:] for row in rows], [row[0] for row in rows])

    @classmethod
    def read(cls, text):
        """Return the machine with this text."""
        letters, transitions, marks = machine_parts(text, may_be_open=cls.OPEN)
        return cls(letters, transitions, marks)

    @property
    def text(self):
        """The text of the machine."""
        return machine_text(self._letters, self._transitions, self._marks)

    @property
    def letters(self):
        """The letters, a string."""
        return self._letters

    @property
    def transitions(self):
        """For each state a tuple with a state or None for each letter, a tuple of tuples."""
        return self._transitions

    @property
    def marks(self):
        """For each state its mark, a tuple."""
        return self._marks

    @property
    def size(self):
        """The number of states."""
        return len(self._marks)

    def run(self, word):
        """Return the state to which the word leads, None if the word leaves the machine."""
        if not is_word(word, self._letters):
            raise InvalidWord(word)
        state = 0
        for letter in word:
            state = self._transitions[state][self._letters.index(letter)]
            if state is None:
                return None
        return state

    def answer(self, word):
        """Return the mark of the state to which the word leads, None if the word leaves the machine."""
        state = self.run(word)
        return None if state is None else self._marks[state]

    def walk(self, word):
        """Yield the states on the way of the word; end before a missing transition."""
        if not is_word(word, self._letters):
            raise InvalidWord(word)
        state = 0
        yield state
        for letter in word:
            state = self._transitions[state][self._letters.index(letter)]
            if state is None:
                return
            yield state


class Complete(Machine):
    """A machine in which no transition and no mark is missing."""

    OPEN = False

    def __init__(self, letters, transitions, marks):
        super().__init__(letters, transitions, marks)
        missing = first_open_row(transitions, marks)
        if missing is not None:
            raise NotComplete(missing)
