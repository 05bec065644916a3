"""Numbers: pairs of a top and a bottom, which is at least 1."""

from math import gcd


def lowest(top, bottom):
    """The number without a common divisor."""
    divisor = gcd(top, bottom)
    return (top // divisor, bottom // divisor)


def common_divisor(row):
    """The greatest integer that divides all items, 0 if all of these are 0."""
    found = 0
    for item in row:
        found = gcd(found, item)
    return found


def without_divisor(row):
    """The tuple of the items, not all of them 0, divided by their greatest common divisor."""
    divisor = common_divisor(row)
    return tuple([item // divisor for item in row])


def integer_power(base, exponent):
    """The power of an integer with an exponent from 0 on."""
    result = 1
    square = base
    left = exponent
    while left > 0:
        if left & 1:
            result = result * square
        left = left // 2
        # The last square would not be needed, and is the most costly one.
        if left > 0:
            square = square * square
    return result


def number_power(number, exponent):
    """The power of a number with an exponent from 0 on, as a pair of a top and a bottom."""
    return (integer_power(number[0], exponent), integer_power(number[1], exponent))


def is_at_most(one, other):
    """Whether a number is at most another one, if both are above 0."""
    bits = one[0].bit_length() + other[1].bit_length()
    other_bits = other[0].bit_length() + one[1].bit_length()
    # A product has as many bits as both factors together, or one less. So long products are made
    # only where this does not tell which one is less.
    if abs(bits - other_bits) > 1:
        return bits < other_bits
    return one[0] * other[1] <= other[0] * one[1]


def times_number(times, number):
    """An integer times a number, as a pair of a top and a bottom."""
    return (times * number[0], number[1])


def number_product(one, other):
    """The product of two numbers, as a pair of a top and a bottom."""
    return (one[0] * other[0], one[1] * other[1])
