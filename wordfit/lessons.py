"""Lessons: samples that only one complete machine of its size fits."""

from itertools import combinations

from wordfit.errors import TooLarge
from wordfit.families import Family
from wordfit.limits import LESSON
from wordfit.machines import Machine
from wordfit.points import Prefixes, fits_points
from wordfit.search import fits, least_size
from wordfit.telling import marked_sample, reduced_words
from wordfit.words import words_up_to


def is_lesson(machine, sample):
    """Return whether the sample is a lesson for the machine."""
    reduced_words(machine)
    if machine.letters != sample.letters:
        return False
    points = Prefixes(sample)
    if least_size(points, machine.size) != machine.size or not fits_points(machine, points):
        return False
    # The machine is one of the complete machines that fit.
    complete = 0
    for fit in fits(points, machine.size):
        complete += Family(fit).many
        if complete > 1:
            return False
    return True


def are_too_many(size, width):
    """Return whether there are more than LESSON complete machines with so many states and letters."""
    many = 1
    for factor in [2] * size + [size] * (size * width):
        many *= factor
        # This keeps the number small.
        if many > LESSON:
            return True
    return False


def other_answers(machine, words):
    """Return for the complete machines of the same size, except those that answer alike, to which words they differ.

    The words are given as the bits of a number; each number is listed once.
    """
    width, size = len(machine.letters), machine.size
    family = Family(Machine(machine.letters, [[None] * width for _ in range(size)], [None] * size))
    right = [machine.answer(word) for word in words]
    found = {}
    for number in range(family.many):
        other = family.member(number)
        found[bits([at for at, word in enumerate(words) if other.answer(word) != right[at]])] = True
    return [differing for differing in found if differing != 0]


def bits(places):
    """Return the number in which the bits at these different places are set."""
    return sum([1 << place for place in places])


def lesson(machine):
    """Return the shortest lesson for the machine."""
    reduced_words(machine)
    if are_too_many(machine.size, len(machine.letters)):
        raise TooLarge(LESSON)
    # Machines of one size that answer these words alike are equivalent.
    words = words_up_to(machine.letters, 2 * machine.size - 2)
    others = other_answers(machine, words)
    for many in range(len(words)):
        for chosen in combinations(range(len(words)), many):
            told = bits(chosen)
            if all([told & differing != 0 for differing in others]):
                return marked_sample(machine, [words[at] for at in chosen])
    return marked_sample(machine, words)
