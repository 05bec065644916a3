"""Numbers: pairs of a top and a bottom, which is at least 1."""

from math import gcd


def lowest(top, bottom):
    """The number without a common divisor."""
    divisor = gcd(top, bottom)
    return (top // divisor, bottom // divisor)


def common_divisor(row):
    """The greatest integer that divides all items, 0 if all of these are 0."""
    found = 0
    for item in row:
        found = gcd(found, item)
    return found


def without_divisor(row):
    """The tuple of the items, not all of them 0, divided by their greatest common divisor."""
    divisor = common_divisor(row)
    return tuple([item // divisor for item in row])
