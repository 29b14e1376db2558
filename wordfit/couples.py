"""The walk of a machine over points."""


class Couples:
    """The couples (state, point) that a walk finds, in their order.

    A walk stops at the first transition that is missing. It also stops at its first clash, that is as soon as a state
    is coupled with a True and with a False point: then nothing that is found later is of interest. The machine may be
    built while it is walked: after the missing transition was chosen, the walk goes on, and a choice can be dropped.
    """

    def __init__(self, points, transitions):
        self._letters = points.letters
        self._nexts = points.nexts
        self._signs = points.marks
        self._known = {}
        self._origins = []
        self._taken = 0
        # For each state the number of the first couple of it that has a marked point.
        self._first_marked = [None] * len(transitions)
        self.rows = [list(row) for row in transitions]
        self.found = []
        self.missing = None
        self.clash = None
        self._find(0, 0, "")

    def _find(self, state, point, letter):
        """Note a couple that is found by a letter from the couple that is taken, unless it was found before."""
        if (state, point) in self._known:
            return
        self._known[(state, point)] = True
        self._origins.append((self._taken, letter))
        self.found.append((state, point))
        if self._signs[point] is not None:
            self._note_mark(state, point)

    def _note_mark(self, state, point):
        """Note that the couple that was found last has a marked point."""
        number = len(self.found) - 1
        partner = self._first_marked[state]
        if partner is None:
            self._first_marked[state] = number
        elif self.clash is None and self._signs[self.found[partner][1]] != self._signs[point]:
            self.clash = (partner, number)

    def go_on(self):
        """Go on until a transition is missing, a state clashes or all couples are taken."""
        self.missing = None
        while self._taken < len(self.found) and self.clash is None:
            self._take()
            if self.missing is not None:
                return
            self._taken += 1

    def _take(self):
        """Take the next couple. If the walk stopped at it before, what was found then is not found again."""
        state, point = self.found[self._taken]
        for letter, following in enumerate(self._nexts[point]):
            if following is None:
                continue
            if self.rows[state][letter] is None:
                self.missing = (state, letter)
                return
            self._find(self.rows[state][letter], following, self._letters[letter])

    def choose(self, target):
        """Choose the target of the transition that is missing. Return what `drop` needs."""
        state, letter = self.missing
        self.rows[state][letter] = target
        return (state, letter, self._taken, len(self.found))

    def drop(self, choice):
        """Take the last choice back, and all that the walk found by it."""
        state, letter, taken, many = choice
        self.rows[state][letter] = None
        self.missing = (state, letter)
        self.clash = None
        self._taken = taken
        while len(self.found) > many:
            couple = self.found.pop()
            del self._known[couple]
            self._origins.pop()
            if self._first_marked[couple[0]] == len(self.found):
                self._first_marked[couple[0]] = None

    def ended(self):
        """Return whether the walk has taken all couples, without a clash."""
        return self.missing is None and self.clash is None

    def word_of(self, number):
        """Return the word along which the couple with this number was found first."""
        letters = []
        while number > 0:
            number, letter = self._origins[number]
            letters.append(letter)
        return "".join(letters[::-1])

    def found_marks(self):
        """Return for each state the mark of a marked point with which it is coupled, None if there is none."""
        return [None if number is None else self._signs[self.found[number][1]] for number in self._first_marked]

    def needed(self):
        """Return the list of (state, letter's index) of the transitions in the order in which they were needed."""
        order = {}
        for state, point in self.found:
            for letter, following in enumerate(self._nexts[point]):
                if following is not None:
                    order[(state, letter)] = True
        return list(order)
