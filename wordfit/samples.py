"""Samples: words that are marked True or False."""

from wordfit.errors import DuplicateWord, InvalidLetters, InvalidSample, InvalidWord, TooLarge, UnknownWord
from wordfit.kinds import is_sequence
from wordfit.limits import LENGTH, PREFIXES, WORDS
from wordfit.texts import sample_parts, sample_text
from wordfit.words import are_letters, is_word_up_to, prefixes_of, word_order


def check_words(words, letters):
    """Raise InvalidWord for the first of the words that no sample over the letters has."""
    for word in words:
        if not is_word_up_to(word, letters, LENGTH):
            raise InvalidWord(word)


def check_sequence(words, letters):
    """Raise InvalidWord for any value that is not a sequence of words of a sample over the letters."""
    if not is_sequence(words):
        raise InvalidWord(words)
    check_words(words, letters)


class Sample:
    """Letters, words that are marked True and words that are marked False. Samples never change."""

    def __init__(self, letters, yes=(), no=()):
        if not are_letters(letters):
            raise InvalidLetters()
        check_sequence(yes, letters)
        check_sequence(no, letters)
        marks = {word: True for word in word_order(yes)}
        for word in word_order(no):
            if marks.get(word):
                raise InvalidSample(word)
            marks[word] = False
        if len(marks) > WORDS:
            raise TooLarge(WORDS)
        prefixes = prefixes_of(list(marks))
        if len(prefixes) > PREFIXES:
            raise TooLarge(PREFIXES)
        self._letters = letters
        self._marks = marks
        self._yes = tuple([word for word in marks if marks[word]])
        self._no = tuple([word for word in marks if not marks[word]])
        self._prefixes = tuple(prefixes)

    def __eq__(self, other):
        return (isinstance(other, Sample) and self._letters == other._letters
                and self._yes == other._yes and self._no == other._no)

    @classmethod
    def read(cls, text):
        """Return the sample with this text."""
        letters, yes, no = sample_parts(text)
        return cls(letters, yes, no)

    @property
    def text(self):
        """The text of the sample."""
        return sample_text(self._letters, self._yes, self._no)

    @property
    def letters(self):
        """The letters, a string."""
        return self._letters

    @property
    def yes(self):
        """The words that are marked True, a tuple in word order."""
        return self._yes

    @property
    def no(self):
        """The words that are marked False, a tuple in word order."""
        return self._no

    @property
    def prefixes(self):
        """The empty word and all beginnings of the words, a tuple in word order."""
        return self._prefixes

    @property
    def size(self):
        """The number of words."""
        return len(self._marks)

    def mark(self, word):
        """Return the mark of a word, None for any other value."""
        return self._marks.get(word) if isinstance(word, str) else None

    def adding(self, *words, mark=True):
        """Return the sample with these words, too."""
        check_words(words, self._letters)
        seen = {}
        for word in words:
            if word in self._marks or word in seen:
                raise DuplicateWord(word)
            seen[word] = True
        if mark:
            return Sample(self._letters, self._yes + words, self._no)
        return Sample(self._letters, self._yes, self._no + words)

    def without(self, *words):
        """Return the sample without these words."""
        seen = {}
        for word in words:
            if self.mark(word) is None or word in seen:
                raise UnknownWord(word)
            seen[word] = True
        yes = [word for word in self._yes if word not in seen]
        return Sample(self._letters, yes, [word for word in self._no if word not in seen])
