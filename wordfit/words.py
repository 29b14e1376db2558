"""Words and their order."""


def word_order(words):
    """Return a new list of the words: shorter ones first, those of equal length in alphabetical order."""
    # Sorting keeps the order of what is equal, so words of equal length stay in alphabetical order.
    return sorted(sorted(words), key=len)
