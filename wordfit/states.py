"""The states of a machine: the words that lead to them, and which of them are equivalent."""


def least_words(machine):
    """Return the list of the least word that leads to each state, None for a state that no word reaches."""
    words = [None] * machine.size
    words[0] = ""
    order = [0]
    taken = 0
    # States are reached in the order of their least words, as shorter words and lesser letters come first.
    while taken < len(order):
        state = order[taken]
        for letter, target in zip(machine.letters, machine.transitions[state]):
            if target is not None and words[target] is None:
                words[target] = words[state] + letter
                order.append(target)
        taken += 1
    return words


def numbered(keys):
    """Return for each key how many different keys there are before its first occurrence."""
    numbers = {}
    for key in keys:
        numbers.setdefault(key, len(numbers))
    return [numbers[key] for key in keys]


def state_classes(machine):
    """Return for each state the number of its class of equivalent states.

    The classes are numbered by their least states. From each state to which a transition leads, some word has to lead
    to a mark, as in a complete machine: only then no transition does the same as a missing one.
    """
    classes = numbered(machine.marks)
    while True:
        finer = numbered([(classes[state], *[None if target is None else classes[target] for target in row])
                          for state, row in enumerate(machine.transitions)])
        if finer == classes:
            return classes
        classes = finer


def state_after(machine, state, word):
    """Return the state to which the word leads from a state, None if it leaves the machine or this is None already."""
    for letter in word:
        if state is None:
            return None
        state = machine.transitions[state][machine.letters.index(letter)]
    return state


def mark_at(machine, state):
    """Return the mark of a state, None if the machine was left."""
    return None if state is None else machine.marks[state]


def row_at(machine, state):
    """Return the targets of a state's transitions; all are None if the machine was left."""
    return [None] * len(machine.letters) if state is None else machine.transitions[state]
