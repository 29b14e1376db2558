"""The texts of samples, machines and notebooks.

A line can stand if a text of an object of the class begins with the lines up to it. So the parts are read line by
line, and each line is compared only with those in front of it.
"""

from wordfit.errors import InvalidText
from wordfit.limits import CHOICES, LENGTH, PREFIXES, STATES, WORDS
from wordfit.words import add_beginnings, are_letters, is_word_up_to, word_order

DIGITS = "0123456789"
EMPTY = "-"
MISSING = "-"
WORD_MARKS = {"yes": True, "no": False}
STATE_MARKS = {"+": True, "-": False, "?": None}
STATE_SIGNS = {True: "+", False: "-", None: "?"}


def word_text(word):
    """Return how a word is written."""
    return EMPTY if word == "" else word


def target_text(target):
    """Return how a target of a transition is written."""
    return MISSING if target is None else str(target)


def marked_text(word, mark):
    """Return how a word with its mark is written."""
    return f"yes {word_text(word)}" if mark else f"no {word_text(word)}"


def sample_text(letters, yes, no):
    """Return the text of a sample with these valid parts."""
    marks = {word: True for word in yes}
    for word in no:
        marks[word] = False
    lines = [marked_text(word, marks[word]) for word in word_order(list(marks))]
    return "\n".join([f"sample {letters}", *lines])


def notebook_text(letters, most, entries):
    """Return the text of a notebook with these valid parts."""
    return "\n".join([f"notebook {letters}", f"most {most}", *[marked_text(word, mark) for word, mark in entries]])


def machine_text(letters, transitions, marks):
    """Return the text of a machine with these valid parts."""
    lines = [f"machine {letters}"]
    for state, row in enumerate(transitions):
        lines.append(" ".join([STATE_SIGNS[marks[state]], *[target_text(target) for target in row]]))
    return "\n".join(lines)


def text_lines(text):
    """Return the list of the lines of any value."""
    if not isinstance(text, str):
        raise InvalidText(0)
    return text.split("\n")


def read_head(lines, kind):
    """Return the letters that the first line names behind the kind of object."""
    words = lines[0].split(" ")
    if len(words) != 2 or words[0] != kind or not are_letters(words[1]):
        raise InvalidText(0)
    return words[1]


def read_word(written, letters):
    """Return the word of a sample or a notebook that is written so, or None if this is none."""
    if written == EMPTY:
        return ""
    # The empty word is not written as nothing.
    if written == "" or not is_word_up_to(written, letters, LENGTH):
        return None
    return written


def read_marked(line, letters):
    """Return the tuple of the mark and the word that a line shows, or None if it shows none."""
    words = line.split(" ")
    if len(words) != 2 or words[0] not in WORD_MARKS:
        return None
    word = read_word(words[1], letters)
    return None if word is None else (WORD_MARKS[words[0]], word)


def is_later(word, other):
    """Return whether the word comes behind the other one in word order."""
    return (len(word), word) > (len(other), other)


def read_entries(lines, start, letters, is_sorted):
    """Return the tuple (entries, wrong) for the lines from one on, with a tuple of entries (word, mark).

    `wrong` is the index of the first line that cannot stand, and the entries are those in front of it; it is None if
    all lines can stand. If `is_sorted`, words only stand in word order.
    """
    marks = {}
    prefixes = {}
    latest = None
    for line in range(start, len(lines)):
        marked = read_marked(lines[line], letters)
        if marked is None or marked[1] in marks or len(marks) == WORDS:
            return (tuple(marks.items()), line)
        mark, word = marked
        add_beginnings(prefixes, word)
        if len(prefixes) > PREFIXES or (is_sorted and latest is not None and not is_later(word, latest)):
            return (tuple(marks.items()), line)
        marks[word] = mark
        latest = word
    return (tuple(marks.items()), None)


def sample_parts(text):
    """Return (letters, yes, no) of the sample with this text, with tuples of words in word order."""
    lines = text_lines(text)
    letters = read_head(lines, "sample")
    entries, wrong = read_entries(lines, 1, letters, True)
    if wrong is not None:
        raise InvalidText(wrong)
    yes = tuple([word for word, mark in entries if mark])
    return (letters, yes, tuple([word for word, mark in entries if not mark]))


def notebook_parts(text):
    """Return (letters, most, entries, wrong) of a notebook's text; `wrong` and the entries as `read_entries` does."""
    lines = text_lines(text)
    letters = read_head(lines, "notebook")
    if len(lines) == 1:
        raise InvalidText(1)
    words = lines[1].split(" ")
    if len(words) != 2 or words[0] != "most" or not is_number_text(words[1], CHOICES // len(letters)):
        raise InvalidText(1)
    most = int(words[1])
    if most == 0:
        raise InvalidText(1)
    entries, wrong = read_entries(lines, 2, letters, False)
    return (letters, most, entries, wrong)


def is_number_text(written, greatest):
    """Return whether this is how a number from 0 to the greatest one is written."""
    # Its length is looked at first: Python refuses to convert very long numbers.
    if not 1 <= len(written) <= len(str(greatest)) or not all([sign in DIGITS for sign in written]):
        return False
    return str(int(written)) == written and int(written) <= greatest


def is_state_line(words, width, may_be_open):
    """Return whether the words of a line show a state of a machine with so many letters."""
    if len(words) != width + 1 or words[0] not in STATE_MARKS:
        return False
    targets = words[1:]
    if not may_be_open and (STATE_MARKS[words[0]] is None or MISSING in targets):
        return False
    return all([target == MISSING or is_number_text(target, STATES - 1) for target in targets])


def machine_parts(text, *, may_be_open=True):
    """Return (letters, transitions, marks) of the machine with this text, which is complete unless it may be open."""
    lines = text_lines(text)
    letters = read_head(lines, "machine")
    transitions = []
    marks = []
    for line in range(1, len(lines)):
        words = lines[line].split(" ")
        if line > STATES or not is_state_line(words, len(letters), may_be_open):
            raise InvalidText(line)
        transitions.append(tuple([None if target == MISSING else int(target) for target in words[1:]]))
        marks.append(STATE_MARKS[words[0]])
    last = max([target for row in transitions for target in row if target is not None], default=0)
    if last >= len(transitions):
        raise InvalidText(len(lines))
    return (letters, tuple(transitions), tuple(marks))
