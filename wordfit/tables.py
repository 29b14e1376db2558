"""Tables: what machines and points have in common.

A table has rows, each with a row's number or None for each letter, and a mark for each row.
"""

from wordfit.kinds import is_mark, is_number, is_sequence


def is_table(rows, marks):
    """Return whether any two values are sequences of the same length from 1 on."""
    return is_sequence(rows) and is_sequence(marks) and len(rows) == len(marks) and len(rows) > 0


def is_target(value, size):
    """Return whether any value is None or the number of one of so many rows."""
    return value is None or (is_number(value) and 0 <= value < size)


def is_row(row, width, size):
    """Return whether any value is a row of a table of this width and size."""
    return is_sequence(row) and len(row) == width and all([is_target(target, size) for target in row])


def first_wrong_row(letters, rows, marks):
    """Return the number of the first row that cannot stand in the table, or whose mark cannot; None if all can."""
    for number, row in enumerate(rows):
        if not is_row(row, len(letters), len(rows)) or not is_mark(marks[number]):
            return number
    return None


def first_open_row(rows, marks):
    """Return the number of the first row in which a target or the mark is None; None if there is none."""
    for number, row in enumerate(rows):
        if None in row or marks[number] is None:
            return number
    return None


def copied_rows(rows):
    """Return the rows as a tuple of tuples."""
    return tuple([tuple(row) for row in rows])


def rows_leading_to(rows, aims):
    """Return for each row whether some way along the targets, perhaps of no step, leads to a row that is an aim."""
    found = list(aims)
    going = True
    while going:
        going = False
        for number, row in enumerate(rows):
            if not found[number] and any([target is not None and found[target] for target in row]):
                found[number] = True
                going = True
    return found
