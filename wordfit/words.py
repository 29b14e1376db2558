"""Letters, words and their order."""

MOST_LETTERS = 4


def word_order(words):
    """Return a new list of the words: shorter ones first, those of equal length in alphabetical order."""
    # Sorting keeps the order of what is equal, so words of equal length stay in alphabetical order.
    return sorted(sorted(words), key=len)


def are_letters(value):
    """Return whether any value is a string of one to four different lower-case letters in ascending order."""
    if not isinstance(value, str) or not 1 <= len(value) <= MOST_LETTERS:
        return False
    if not all(["a" <= letter <= "z" for letter in value]):
        return False
    return all([value[at] < value[at + 1] for at in range(len(value) - 1)])


def is_word(value, letters):
    """Return whether any value is a word over the letters."""
    return isinstance(value, str) and all([sign in letters for sign in value])


def is_word_up_to(value, letters, length):
    """Return whether any value is a word over the letters with at most this many letters."""
    return is_word(value, letters) and len(value) <= length


def add_beginnings(found, word):
    """Add all beginnings of the word, also the empty word and the word itself, to the keys of a dict."""
    for length in range(len(word) + 1):
        found[word[:length]] = True


def prefixes_of(words):
    """Return the list of the empty word and all beginnings of the words, each once, in word order."""
    found = {"": True}
    for word in words:
        add_beginnings(found, word)
    return word_order(list(found))


def longer_words(words, letters):
    """Return the list of the words, each followed by any one letter."""
    return [word + letter for word in words for letter in letters]


def words_up_to(letters, length):
    """Return the list of all words of at most this length, in word order."""
    words = [""]
    latest = [""]
    for _ in range(length):
        latest = longer_words(latest, letters)
        words.extend(latest)
    return words
