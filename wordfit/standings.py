"""What a notebook shows, and its steps."""

from wordfit.errors import DuplicateWord, InvalidSample, InvalidWord, TooLarge
from wordfit.limits import LENGTH, POINTS, PREFIXES, WORDS
from wordfit.merging import Merger
from wordfit.points import Prefixes
from wordfit.samples import Sample
from wordfit.search import first_fit
from wordfit.versions import Versions
from wordfit.words import add_beginnings, is_word_up_to, word_order, words_up_to


def sample_of(letters, entries):
    """Return the sample of the entries."""
    return Sample(letters, [word for word, mark in entries if mark], [word for word, mark in entries if not mark])


def joined_entries(letters, entries, further):
    """Return the tuple of the entries and further ones. Raise the error for the first one that cannot be added."""
    marks = {}
    prefixes = {}
    for word, mark in entries:
        marks[word] = mark
        add_beginnings(prefixes, word)
    for word, mark in further:
        if not is_word_up_to(word, letters, LENGTH):
            raise InvalidWord(word)
        if word in marks:
            raise DuplicateWord(word)
        if len(marks) == WORDS:
            raise TooLarge(WORDS)
        add_beginnings(prefixes, word)
        if len(prefixes) > PREFIXES:
            raise TooLarge(PREFIXES)
        marks[word] = mark
    return tuple(marks.items())


class Standing:
    """The letters, entries and greatest size of a notebook, and what belongs to them.

    The history are the tuples of entries before and after each step that can be undone or redone; `at` is the place of
    the present ones. A standing shows always the same: whoever keeps it can return to it.
    """

    def __init__(self, letters, limit, history, at):
        self.limit = limit
        self.history = history
        self.at = at
        # All this is worked out now, not when it is asked for: to read a property changes nothing.
        self.marked = sample_of(letters, history[at])
        self.points = Prefixes(self.marked)
        self.fit = first_fit(self.points, limit) if self.points.size <= POINTS else None
        self.joined = Merger(self.marked).result()
        self._versions = None

    def present(self):
        """Return the tuple of the entries."""
        return self.history[self.at]

    def stepped(self, entries):
        """Return the standing after a step to other entries."""
        return Standing(self.marked.letters, self.limit, (*self.history[:self.at + 1], entries), self.at + 1)

    def moved(self, at):
        """Return the standing after steps were undone or redone."""
        return Standing(self.marked.letters, self.limit, self.history, at)

    def limited(self, limit):
        """Return the standing with another greatest size."""
        return Standing(self.marked.letters, limit, self.history, self.at)

    def versions(self):
        """Return the versions, which are there if there is a size."""
        # There may be very many, and not everybody asks for them.
        if self._versions is None:
            self._versions = Versions(self.points, self.limit)
        return self._versions

    def require_size(self):
        """Raise the error if there is no size."""
        if self.points.size > POINTS:
            raise TooLarge(POINTS)
        if self.fit is None:
            raise TooLarge(self.limit)


def first_without_size(letters, limit, entries):
    """Return the number of the entry with which there is no size any more, None if there is none."""
    # More entries never have a lesser least size, so halving finds how many of the first ones have a size.
    low, high = 0, len(entries)
    while low < high:
        middle = (low + high + 1) // 2
        points = Prefixes(sample_of(letters, entries[:middle]))
        if points.size <= POINTS and first_fit(points, limit) is not None:
            low = middle
        else:
            high = middle - 1
    return low if low < len(entries) else None


def learned_entries(machine, length, limit, entries):
    """Return the list of the entries that are added to these, so that all versions answer as the machine does."""
    wrong = word_order([word for word, mark in entries if mark != machine.answer(word)])
    if wrong != []:
        raise InvalidSample(wrong[0])
    added = []
    going = True
    while going:
        versions = Versions(Prefixes(sample_of(machine.letters, [*entries, *added])), limit)
        word = next_word(versions, machine, length)
        if word is None:
            going = False
        else:
            added.append((word, machine.answer(word)))
    return added


def next_word(versions, machine, length):
    """Return the word whose answer is to be added, None if all versions answer all words as the machine does."""
    word, true, false = versions.question(length)
    if true > 0 and false > 0:
        return word
    for other in words_up_to(machine.letters, length):
        if versions.certain(other) != machine.answer(other):
            return other
    return None
