"""A desk, which executes commands that are written as lines."""

from wordfit.errors import InvalidCommand
from wordfit.machines import Machine
from wordfit.notebooks import Notebook
from wordfit.texts import is_number_text, marked_text, read_marked, read_word

GREATEST_NUMBER = 10 ** 30 - 1
DONE = "ok"
NOTHING = "none"


def folded(text):
    """Return a text as one line."""
    return text.replace("\n", " / ")


def unfolded(words):
    """Return the text that is written in one line with these words."""
    return " ".join(words).replace(" / ", "\n")


def entries_line(entries):
    """Return how entries are shown."""
    return " ".join([marked_text(word, mark) for word, mark in entries]) if entries != [] else NOTHING


# How the words behind the name of a command are read: each function returns the list of the arguments, or None if the
# line is not a command.


def no_arguments(words, letters):
    """Read nothing."""
    return [] if words == [] else None


def one_word(words, letters):
    """Read WORD."""
    word = read_word(words[0], letters) if len(words) == 1 else None
    return None if word is None else [word]


def one_number(words, letters):
    """Read N."""
    return [int(words[0])] if len(words) == 1 and is_number_text(words[0], GREATEST_NUMBER) else None


def perhaps_number(words, letters):
    """Read N, or nothing."""
    return [] if words == [] else one_number(words, letters)


def some_entries(words, letters):
    """Read `yes WORD` or `no WORD`, one or more times."""
    marked = [read_marked(" ".join(words[at:at + 2]), letters) for at in range(0, len(words), 2)]
    return None if marked == [] or None in marked else [(word, mark) for mark, word in marked]


def one_text(words, letters):
    """Read TEXT."""
    return [unfolded(words)] if words != [] else None


def number_and_text(words, letters):
    """Read N and TEXT."""
    number = one_number(words[:1], letters)
    return None if number is None or len(words) == 1 else [*number, unfolded(words[1:])]


def add_true(book, word):
    """Execute `yes WORD`."""
    book.add(word)
    return DONE


def add_false(book, word):
    """Execute `no WORD`."""
    book.add(word, False)
    return DONE


def add_some(book, *added):
    """Execute `all` with entries."""
    book.add_all(added)
    return DONE


def take_one_back(book, word):
    """Execute `back WORD`."""
    book.take_back(word)
    return DONE


def turn_one(book, word):
    """Execute `turn WORD`."""
    book.turn(word)
    return DONE


def undo_some(book, count=1):
    """Execute `undo` or `undo N`."""
    book.undo(count)
    return DONE


def redo_some(book, count=1):
    """Execute `redo` or `redo N`."""
    book.redo(count)
    return DONE


def limit_size(book, value):
    """Execute `most N`."""
    book.set_most(value)
    return DONE


def learn_text(book, length, text):
    """Execute `learn N TEXT`."""
    return entries_line(book.learn(Machine.read(text), length))


def show_size(book):
    """Execute `size`."""
    return NOTHING if book.size is None else str(book.size)


def show_count(book):
    """Execute `count`."""
    count = book.version_count()
    return NOTHING if count is None else str(count)


def show_least(book):
    """Execute `least`."""
    return NOTHING if book.least is None else folded(book.least.text)


def show_merged(book):
    """Execute `merged`."""
    return folded(book.merged.text)


def show_words(book):
    """Execute `words`."""
    return entries_line(list(book.entries()))


def show_text(book):
    """Execute `save`."""
    return folded(book.text)


def show_answers(book, word):
    """Execute `answer WORD`."""
    answers = book.version_answers(word)
    return NOTHING if answers is None else f"{answers[0]} {answers[1]}"


FORMS = {"yes": one_word, "no": one_word, "back": one_word, "turn": one_word, "undo": perhaps_number,
         "redo": perhaps_number, "most": one_number, "all": some_entries, "load": one_text, "learn": number_and_text,
         "size": no_arguments, "count": no_arguments, "least": no_arguments, "merged": no_arguments,
         "words": no_arguments, "save": no_arguments, "answer": one_word}
ACTIONS = {"yes": add_true, "no": add_false, "back": take_one_back, "turn": turn_one, "undo": undo_some,
           "redo": redo_some, "most": limit_size, "all": add_some, "learn": learn_text, "size": show_size,
           "count": show_count, "least": show_least, "merged": show_merged, "words": show_words, "save": show_text,
           "answer": show_answers}


def command_arguments(line, letters):
    """Return the list of the arguments of a command, None for any value that is not a command."""
    if not isinstance(line, str) or "\n" in line:
        return None
    words = line.split(" ")
    if "" in words or words[0] not in FORMS:
        return None
    form = FORMS[words[0]]
    return form(words[1:], letters)


class Desk:
    """A notebook, and commands that change it or show what it shows."""

    def __init__(self, letters):
        self._book = Notebook(letters)

    @property
    def notebook(self):
        """The notebook itself."""
        return self._book

    def execute(self, line):
        """Execute a command and return its result, a string."""
        arguments = command_arguments(line, self._book.letters)
        if arguments is None:
            raise InvalidCommand(line)
        name = line.split(" ")[0]
        if name == "load":
            self._book = Notebook.read(arguments[0])
            return DONE
        action = ACTIONS[name]
        return action(self._book, *arguments)

    def run(self, *lines):
        """Execute commands one after another and return the list of their results; all of them, or none."""
        book = self._book
        standing = book.standing
        results = None
        try:
            results = [self.execute(line) for line in lines]
        finally:
            if results is None:
                self._book = book
                book.standing = standing
        return results
