"""Kinds of values, as the document names them."""


def is_number(value):
    """Return whether the value is an integer; True and False are none."""
    return isinstance(value, int) and not isinstance(value, bool)


def is_sequence(value):
    """Return whether the value is a list or a tuple."""
    return isinstance(value, (list, tuple))


def is_mark(value):
    """Return whether the value is True, False or None; 1 and 0 are equal to marks, but none."""
    return value is None or value is True or value is False
