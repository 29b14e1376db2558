"""Notebooks, which collect entries: words with their marks."""

from wordfit.errors import (InvalidLetters, InvalidText, InvalidWord, NotComplete, NothingToRedo, NothingToUndo,
                            OutOfRange, TooLarge, UnknownWord)
from wordfit.kinds import is_number
from wordfit.limits import CHOICES
from wordfit.standings import Standing, first_without_size, joined_entries, learned_entries
from wordfit.tables import first_open_row
from wordfit.texts import notebook_parts, notebook_text
from wordfit.versions import Versions
from wordfit.words import are_letters, is_word


def check_count(value):
    """Raise OutOfRange for any value that is not an integer from 1 on."""
    if not is_number(value) or value < 1:
        raise OutOfRange(value)


class Notebook:
    """Entries (word, mark) in the order in which they were added, with steps that can be undone and redone."""

    STRICT = False

    def __init__(self, letters):
        if not are_letters(letters):
            raise InvalidLetters()
        # All that changes is in this one attribute, so that who keeps its value can return to it.
        self.standing = Standing(letters, CHOICES // len(letters), ((),), 0)

    def __eq__(self, other):
        return (isinstance(other, Notebook) and self.standing.marked.letters == other.standing.marked.letters
                and self.standing.present() == other.standing.present()
                and self.standing.limit == other.standing.limit)

    def __len__(self):
        return len(self.standing.present())

    @classmethod
    def made(cls, letters, *entries, greatest=None):
        """Return a notebook with these entries, and with this number as `most` unless it is None, without steps."""
        book = cls(letters)
        if greatest is not None:
            book.set_most(greatest)
        book._show(Standing(letters, book.most, (joined_entries(letters, (), entries),), 0))
        return book

    @classmethod
    def read(cls, text):
        """Return the notebook with this text."""
        letters, most, entries, wrong = notebook_parts(text)
        if cls.STRICT:
            number = first_without_size(letters, most, entries)
            # The entries begin with the line 2.
            if number is not None:
                raise InvalidText(number + 2)
        if wrong is not None:
            raise InvalidText(wrong)
        return cls.made(letters, *entries, greatest=most)

    @property
    def text(self):
        """The text of the notebook."""
        return notebook_text(self.standing.marked.letters, self.standing.limit, self.standing.present())

    @property
    def letters(self):
        """The letters, a string."""
        return self.standing.marked.letters

    @property
    def most(self):
        """The greatest size of the machines that are looked for."""
        return self.standing.limit

    @property
    def sample(self):
        """The sample of the entries."""
        return self.standing.marked

    @property
    def size(self):
        """The least size of a machine that fits; None if it is greater than `most` or there are too many prefixes."""
        return None if self.standing.fit is None else self.standing.fit.size

    @property
    def least(self):
        """The first fit of the least size, None if there is no size."""
        return self.standing.fit

    @property
    def merged(self):
        """The machine to which the sample is merged."""
        return self.standing.joined

    @property
    def undoable(self):
        """The number of steps that can be undone."""
        return self.standing.at

    @property
    def redoable(self):
        """The number of steps that can be redone."""
        return len(self.standing.history) - 1 - self.standing.at

    def entries(self):
        """Yield the entries in their order."""
        for entry in self.standing.present():
            yield entry

    def version_count(self):
        """Return the number of versions, None if there is no size."""
        return None if self.standing.fit is None else self.standing.versions().total

    def version_answers(self, word):
        """Return the tuple of how many versions answer True, and how many False; None if there is no size."""
        if not is_word(word, self.standing.marked.letters):
            raise InvalidWord(word)
        return None if self.standing.fit is None else self.standing.versions().answers(word)

    def add(self, word, mark=True):
        """Add an entry at the end."""
        self.add_all([(word, mark)])

    def add_all(self, entries):
        """Add entries at the end, in their order."""
        present = self.standing.present()
        self._show(self.standing.stepped(joined_entries(self.standing.marked.letters, present, entries)))

    def take_back(self, word):
        """Remove the entry for a word."""
        self._require_entry(word)
        entries = [entry for entry in self.standing.present() if entry[0] != word]
        self._show(self.standing.stepped(tuple(entries)))

    def turn(self, word):
        """Change the mark of the entry for a word."""
        self._require_entry(word)
        entries = [(known, not mark if known == word else mark) for known, mark in self.standing.present()]
        self._show(self.standing.stepped(tuple(entries)))

    def undo(self, count=1):
        """Take back the last steps, so many of them."""
        check_count(count)
        if count > self.standing.at:
            raise NothingToUndo()
        self._show(self.standing.moved(self.standing.at - count))

    def redo(self, count=1):
        """Perform steps again that were taken back, so many of them."""
        check_count(count)
        if count > len(self.standing.history) - 1 - self.standing.at:
            raise NothingToRedo()
        self._show(self.standing.moved(self.standing.at + count))

    def set_most(self, value):
        """Change the greatest size of the machines that are looked for."""
        check_count(value)
        if value * len(self.standing.marked.letters) > CHOICES:
            raise TooLarge(CHOICES)
        self._show(self.standing.limited(value))

    def learn(self, machine, length):
        """Add answers of a machine until all versions answer all words up to this length as it does. Return them."""
        if machine.letters != self.standing.marked.letters:
            raise InvalidLetters()
        missing = first_open_row(machine.transitions, machine.marks)
        if missing is not None:
            raise NotComplete(missing)
        if not is_number(length) or not 0 <= length <= Versions.LONGEST:
            raise OutOfRange(length)
        present = self.standing.present()
        added = learned_entries(machine, length, self.standing.limit, present)
        if added != []:
            self._show(self.standing.stepped((*present, *added)))
        return added

    def _require_entry(self, word):
        """Raise UnknownWord for any value that is not the word of an entry."""
        if self.standing.marked.mark(word) is None:
            raise UnknownWord(word)

    def _show(self, standing):
        """Show another standing, unless this is a strict notebook and there would be no size."""
        if self.STRICT:
            standing.require_size()
        self.standing = standing


class Strict(Notebook):
    """A notebook that always has a size."""

    STRICT = True
