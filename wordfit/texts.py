"""The texts of samples and machines.

A line can stand if a text of an object of the class begins with the lines up to it. So the parts are read line by
line, and each line is compared only with those in front of it.
"""

from wordfit.errors import InvalidText
from wordfit.limits import LENGTH, PREFIXES, STATES, WORDS
from wordfit.words import add_beginnings, are_letters, is_word_up_to, word_order

DIGITS = "0123456789"
EMPTY = "-"
MISSING = "-"
SAMPLE_MARKS = {"yes": True, "no": False}
STATE_MARKS = {"+": True, "-": False, "?": None}
STATE_SIGNS = {True: "+", False: "-", None: "?"}


def word_text(word):
    """Return how a word is written."""
    return EMPTY if word == "" else word


def target_text(target):
    """Return how a target of a transition is written."""
    return MISSING if target is None else str(target)


def sample_text(letters, yes, no):
    """Return the text of a sample with these valid parts."""
    signs = {word: "yes" for word in yes}
    for word in no:
        signs[word] = "no"
    lines = [f"{signs[word]} {word_text(word)}" for word in word_order(list(signs))]
    return "\n".join([f"sample {letters}", *lines])


def machine_text(letters, transitions, marks):
    """Return the text of a machine with these valid parts."""
    lines = [f"machine {letters}"]
    for state, row in enumerate(transitions):
        lines.append(" ".join([STATE_SIGNS[marks[state]], *[target_text(target) for target in row]]))
    return "\n".join(lines)


def text_lines(text):
    """Return the list of the lines of any value."""
    if not isinstance(text, str):
        raise InvalidText(0)
    return text.split("\n")


def read_head(lines, kind):
    """Return the letters that the first line names behind the kind of object."""
    words = lines[0].split(" ")
    if len(words) != 2 or words[0] != kind or not are_letters(words[1]):
        raise InvalidText(0)
    return words[1]


def read_word(written, letters):
    """Return the word of a sample that is written so, or None if this is none."""
    if written == EMPTY:
        return ""
    # The empty word is not written as nothing.
    if written == "" or not is_word_up_to(written, letters, LENGTH):
        return None
    return written


def read_marked(line, letters):
    """Return the tuple of the mark and the word that a line shows, or None if it shows none."""
    words = line.split(" ")
    if len(words) != 2 or words[0] not in SAMPLE_MARKS:
        return None
    word = read_word(words[1], letters)
    return None if word is None else (SAMPLE_MARKS[words[0]], word)


def is_later(word, other):
    """Return whether the word comes behind the other one in word order."""
    return (len(word), word) > (len(other), other)


def sample_parts(text):
    """Return (letters, yes, no) of the sample with this text, with tuples of words in word order."""
    lines = text_lines(text)
    letters = read_head(lines, "sample")
    words = []
    marked = {}
    prefixes = {}
    for line in range(1, len(lines)):
        entry = read_marked(lines[line], letters)
        if entry is None or (words != [] and not is_later(entry[1], words[-1])):
            raise InvalidText(line)
        mark, word = entry
        words.append(word)
        marked[word] = mark
        add_beginnings(prefixes, word)
        if len(words) > WORDS or len(prefixes) > PREFIXES:
            raise InvalidText(line)
    yes = tuple([word for word in words if marked[word]])
    return (letters, yes, tuple([word for word in words if not marked[word]]))


def is_number_text(written, greatest):
    """Return whether this is how a number from 0 to the greatest one is written."""
    # Its length is looked at first: Python refuses to convert very long numbers.
    if not 1 <= len(written) <= len(str(greatest)) or not all([sign in DIGITS for sign in written]):
        return False
    return str(int(written)) == written and int(written) <= greatest


def is_state_line(words, width, may_be_open):
    """Return whether the words of a line show a state of a machine with so many letters."""
    if len(words) != width + 1 or words[0] not in STATE_MARKS:
        return False
    targets = words[1:]
    if not may_be_open and (STATE_MARKS[words[0]] is None or MISSING in targets):
        return False
    return all([target == MISSING or is_number_text(target, STATES - 1) for target in targets])


def machine_parts(text, *, may_be_open=True):
    """Return (letters, transitions, marks) of the machine with this text, which is complete unless it may be open."""
    lines = text_lines(text)
    letters = read_head(lines, "machine")
    transitions = []
    marks = []
    for line in range(1, len(lines)):
        words = lines[line].split(" ")
        if line > STATES or not is_state_line(words, len(letters), may_be_open):
            raise InvalidText(line)
        transitions.append(tuple([None if target == MISSING else int(target) for target in words[1:]]))
        marks.append(STATE_MARKS[words[0]])
    last = max([target for row in transitions for target in row if target is not None], default=0)
    if last >= len(transitions):
        raise InvalidText(len(lines))
    return (letters, tuple(transitions), tuple(marks))
