"""The states of a machine: the words that lead to them, and which of them are equivalent."""


def least_words(machine):
    """Return the list of the least word that leads to each state, None for a state that no word reaches."""
    words = [None] * machine.size
    words[0] = ""
    order = [0]
    taken = 0
    # States are reached in the order of their least words, as shorter words and lesser letters come first.
    while taken < len(order):
        state = order[taken]
        for letter, target in zip(machine.letters, machine.transitions[state]):
            if target is not None and words[target] is None:
                words[target] = words[state] + letter
                order.append(target)
        taken += 1
    return words


def numbered(keys):
    """Return for each key how many different keys there are before its first occurrence."""
    numbers = {}
    for key in keys:
        numbers.setdefault(key, len(numbers))
    return [numbers[key] for key in keys]


def state_classes(machine):
    """Return for each state of a complete machine the number of its class of equivalent states.

    The classes are numbered by their least states.
    """
    classes = numbered(machine.marks)
    while True:
        finer = numbered([(classes[state], *[classes[target] for target in row])
                          for state, row in enumerate(machine.transitions)])
        if finer == classes:
            return classes
        classes = finer
