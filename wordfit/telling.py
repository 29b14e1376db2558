"""Samples that tell a machine: exactly this machine is merged from them."""

from wordfit.errors import NotComplete, NotReduced, TooLarge
from wordfit.limits import TOLD
from wordfit.samples import Sample
from wordfit.states import least_words, state_classes
from wordfit.tables import first_open_row
from wordfit.words import longer_words, words_up_to


def reduced_words(machine):
    """Return the least words of the states. Raise an error unless the machine is complete and reduced."""
    missing = first_open_row(machine.transitions, machine.marks)
    if missing is not None:
        raise NotComplete(missing)
    words = least_words(machine)
    for state, word in enumerate(words):
        if word is None:
            raise NotReduced(state)
    for state, number in enumerate(state_classes(machine)):
        # Classes are numbered by their least states: up to the first one that is not the least, it is its own number.
        if number != state:
            raise NotReduced(state)
    return words


def is_telling(machine, sample):
    """Return whether the sample tells the machine."""
    words = reduced_words(machine)
    if machine.letters != sample.letters:
        return False
    if not all([machine.answer(word) == sample.mark(word) for word in sample.yes + sample.no]):
        return False
    if not all([sample.mark(word) is not None for word in words]):
        return False
    longer = longer_words(words, machine.letters)
    if not all([word in sample.prefixes for word in longer]):
        return False
    return all([is_told_from(machine, sample, word, longer) for word in words])


def is_told_from(machine, sample, word, longer):
    """Return whether the sample tells a least word from all longer ones that lead to another state."""
    endings = [(known[len(word):], sample.mark(known)) for known in sample.yes + sample.no if known.startswith(word)]
    state = machine.run(word)
    for other in longer:
        if machine.run(other) == state:
            continue
        if not any([sample.mark(other + ending) not in (None, mark) for ending, mark in endings]):
            return False
    return True


def told_sample(machine):
    """Return a sample that tells the machine."""
    words = reduced_words(machine)
    if machine.size > TOLD:
        raise TooLarge(TOLD)
    longer = longer_words(words, machine.letters)
    told = [*words, *longer]
    for word in words:
        for other in longer:
            if machine.run(word) != machine.run(other):
                ending = telling_ending(machine, word, other)
                told.extend([word + ending, other + ending])
    return marked_sample(machine, told)


def marked_sample(machine, words):
    """Return the sample of the words with the marks that the complete machine gives them."""
    yes = [word for word in words if machine.answer(word)]
    return Sample(machine.letters, yes, [word for word in words if not machine.answer(word)])


def telling_ending(machine, word, other):
    """Return the least ending with which the machine answers two words differently that lead to different states."""
    # States of a reduced machine are told apart by words with fewer letters than it has states.
    for ending in words_up_to(machine.letters, machine.size - 1):
        if machine.answer(word + ending) != machine.answer(other + ending):
            return ending
    return None
