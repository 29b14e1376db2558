"""Powers, and numbers as digits to a base, the greatest place first."""


def power(base, many):
    """Return the base, multiplied so many times."""
    result = 1
    for _ in range(many):
        result *= base
    return result


def digits_of(number, base, many):
    """Return the list of the last digits of a number, so many of them."""
    digits = []
    for _ in range(many):
        number, digit = divmod(number, base)
        digits.append(digit)
    return digits[::-1]


def number_with(digits, base):
    """Return the number with these digits."""
    number = 0
    for digit in digits:
        number = number * base + digit
    return number
