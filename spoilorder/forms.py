"""Forms that values of any kind are held against."""

ALPHABET = "abcdefghijklmnopqrstuvwxyz"
LONGEST_NAME = 8


def is_integer(value, low, high):
    """Whether the value is an integer from low to high."""
    # For Python a bool is an int, and True equals 1.
    return isinstance(value, int) and not isinstance(value, bool) and low <= value <= high


def is_name(value):
    """Whether the value is a string of 1 to 8 letters a to z."""
    if not isinstance(value, str) or not 1 <= len(value) <= LONGEST_NAME:
        return False
    return all([sign in ALPHABET for sign in value])


def is_row(value, least, most):
    """Whether the value is a tuple of at least least and at most most members."""
    return isinstance(value, tuple) and least <= len(value) <= most


def ascends(row):
    """Whether the members of the row, which Python can sort, are ascending, none of them twice."""
    return all([row[place] < row[place + 1] for place in range(len(row) - 1)])


def is_same(value, right):
    """Whether the value is just this tuple, integer, string or None; True is not 1 there."""
    if isinstance(value, tuple) and isinstance(right, tuple):
        return len(value) == len(right) and all([is_same(part, other) for part, other in zip(value, right)])
    return isinstance(value, bool) == isinstance(right, bool) and value == right
