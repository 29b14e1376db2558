"""Comparing machines with few states."""

from wordfit.errors import InvalidWord, OutOfRange
from wordfit.joint import check_compared, joint_words, least_apart, next_pairs
from wordfit.kinds import is_number
from wordfit.machines import Machine
from wordfit.states import least_words, mark_at, row_at, state_after, state_classes
from wordfit.tables import rows_leading_to
from wordfit.words import is_word, word_order, words_up_to

LONGEST_COUNTED = 400
LONGEST_LISTED = 6
MOST_TIMES = 10 ** 60
LEFT = -1


def check_range(value, greatest):
    """Raise OutOfRange for any value that is not an integer from 0 to the greatest one."""
    if not is_number(value) or not 0 <= value <= greatest:
        raise OutOfRange(value)


def state_words(machine):
    """Return a list with the least word of each state, None for a state to which no word leads."""
    check_compared(machine)
    return least_words(machine)


def reduced(machine):
    """Return the equivalent machine with fewest states, which are numbered by their least words."""
    check_compared(machine)
    useful = rows_leading_to(machine.transitions, [mark is not None for mark in machine.marks])
    rows = [[target if target is not None and useful[target] else None for target in row]
            for row in machine.transitions]
    classes = state_classes(Machine(machine.letters, rows, machine.marks))
    # The states that stand for their classes, in the order of their least words.
    order = [0]
    numbers = {classes[0]: 0}
    taken = 0
    while taken < len(order):
        row = rows[order[taken]]
        for target in row:
            if target is not None and classes[target] not in numbers:
                numbers[classes[target]] = len(order)
                order.append(target)
        taken += 1
    joined = [[None if target is None else numbers[classes[target]] for target in rows[state]] for state in order]
    return Machine(machine.letters, joined, [machine.marks[state] for state in order])


def alike(one, other):
    """Return ("alike", pairs) if the machines are equivalent, otherwise ("apart", word)."""
    check_compared(one, other)
    word = least_apart(one, other)
    if word is not None:
        return ("apart", word)
    return ("alike", sorted([outside(pair) for pair in joint_words(one, other)]))


def outside(pair):
    """Return a pair of states as it stands in a pairing."""
    return tuple([LEFT if state is None else state for state in pair])


def inside(pair):
    """Return a pair of a pairing as a pair of states."""
    return tuple([None if state == LEFT else state for state in pair])


def check_alike(one, other, value):
    """Return whether the value shows that the machines are equivalent, or that they are not."""
    check_compared(one, other)
    if not isinstance(value, tuple) or len(value) != 2:
        return False
    if value[0] == "apart":
        return is_word(value[1], one.letters) and one.answer(value[1]) != other.answer(value[1])
    return value[0] == "alike" and is_pairing(one, other, value[1])


def is_pair(one, other, value):
    """Return whether any value is a tuple of a state of each machine, or -1 in its place."""
    if not isinstance(value, tuple) or len(value) != 2 or not all([is_number(state) for state in value]):
        return False
    return LEFT <= value[0] < one.size and LEFT <= value[1] < other.size


def is_pairing(one, other, value):
    """Return whether any value is a pairing of the machines."""
    if not isinstance(value, list) or not all([is_pair(one, other, pair) for pair in value]):
        return False
    if not all([value[at] < value[at + 1] for at in range(len(value) - 1)]):
        return False
    known = {pair: True for pair in value}
    if (0, 0) not in known or (LEFT, LEFT) in known:
        return False
    for state, another in [inside(pair) for pair in value]:
        if mark_at(one, state) != mark_at(other, another):
            return False
        if not all([outside(following) in known or following == (None, None)
                    for following in next_pairs(one, other, (state, another))]):
            return False
    return True


def apart_word(machine, *others):
    """Return the least word to which not all of the machines give the same answer, None if there is none."""
    check_compared(machine, *others)
    # Not all answers are the same exactly if one of them differs from the first one.
    found = [least_apart(machine, other) for other in others]
    words = word_order([word for word in found if word is not None])
    return words[0] if words != [] else None


def count_words(machine, length, mark):
    """Return how many words with exactly this many letters are answered with the mark."""
    check_compared(machine)
    check_range(length, LONGEST_COUNTED)
    # For each state, and None for words that have left the machine, how many words lead there.
    counts = {0: 1}
    for _ in range(length):
        longer = {}
        for state, many in counts.items():
            for target in row_at(machine, state):
                longer[target] = longer.get(target, 0) + many
        counts = longer
    return sum([many for state, many in counts.items() if mark_at(machine, state) == mark])


def words_with(machine, mark, length):
    """Yield all words with at most this many letters that are answered with the mark, in word order."""
    check_compared(machine)
    check_range(length, LONGEST_LISTED)
    for word in words_up_to(machine.letters, length):
        if machine.answer(word) == mark:
            yield word


def least_word(machine, mark):
    """Return the least word that is answered with the mark, None if there is none."""
    check_compared(machine)
    known = [(state, word) for state, word in enumerate(least_words(machine)) if word is not None]
    found = [word for state, word in known if machine.marks[state] == mark]
    if mark is None:
        found.extend([word + letter for state, word in known
                      for letter, target in zip(machine.letters, machine.transitions[state]) if target is None])
    words = word_order(found)
    return words[0] if words != [] else None


def answer_power(machine, word, times, *, tail=""):
    """Return the answer to the word, repeated so many times, and then the tail."""
    check_compared(machine)
    for value in (word, tail):
        if not is_word(value, machine.letters):
            raise InvalidWord(value)
    check_range(times, MOST_TIMES)
    return mark_at(machine, state_after(machine, repeated_state(machine, word, times), tail))


def repeated_state(machine, word, times):
    """Return the state to which the word leads, repeated so many times, None if it leaves the machine."""
    states = [0]
    state = state_after(machine, 0, word)
    while state not in states:
        states.append(state)
        state = state_after(machine, state, word)
    if times < len(states):
        return states[times]
    # From the state that comes again on, the same states are passed in turn.
    first = states.index(state)
    return states[first + (times - first) % (len(states) - first)]
