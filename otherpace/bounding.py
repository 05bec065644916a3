"""Bounds from which on one web has at most as many told rounds of each length as another one."""

from otherpace.growing import growth_against, growth_floor_of, slack_row, steep_row
from otherpace.growth import shows_at_most
from otherpace.kinds import is_integer_below, is_integer_from, is_number
from otherpace.numbers import MOST_LENGTH
from otherpace.polynomials import bottom_without_zeros
from otherpace.ratios import is_at_most, lowest, number_power, number_product, times_number
from otherpace.totals import told_totals

MOST_EXPONENT = 40
# So many steps lie between both growths, which lets the bound come near to the least one.
STEPS_BETWEEN = 64


def full_exponent(web):
    """The least exponent with which all items of the power of a web with the period 1 are at
    least 1. With all greater ones they are, too."""
    rooms = list(range(len(web)))
    ways = [[item > 0 for item in row] for row in web]
    exponent = 1
    while not all([all(row) for row in ways]):
        ways = [[any([row[m] and web[m][j] > 0 for m in rooms]) for j in rooms] for row in ways]
        exponent += 1
    return exponent


def bound_of(one, other):
    """A bound for two webs, if the second one has the period 1 and more growth."""
    bits = 0
    while growth_floor_of(other, bits) - growth_floor_of(one, bits) < STEPS_BETWEEN:
        bits += 1
    low = growth_floor_of(other, bits)
    above_one = lowest(growth_floor_of(one, bits) + 1, 1 << bits)
    below = lowest(low, 1 << bits)
    above = lowest(low + 1, 1 << bits)
    exponent = full_exponent(other)
    length = least_length(sizes_of(one, other), (above_one, below, above), exponent)
    rows = (slack_row(one, above_one), rising_row(other, below), slack_row(other, above))
    return (length, above_one, rows[0], below, rows[1], above, rows[2], exponent)


def sizes_of(one, other):
    """The pair of the numbers of rooms."""
    return (len(one), len(other))


def rising_row(web, number):
    """A row of integers from 1 on that shows that the growth is at least a number, as it is."""
    if growth_against(bottom_without_zeros(web), number) == 0:
        return slack_row(web, number)
    return steep_row(web, number)


def least_length(sizes, numbers, exponent):
    """The least length, from the exponent on, at which the bound's conditions are fulfilled; one
    more than the greatest length of a bound if there is none up to this."""
    low, high = exponent, MOST_LENGTH + 1
    # What is fulfilled at a length is so at all greater ones.
    while low < high:
        middle = (low + high) // 2
        if are_far_enough(sizes, numbers, exponent, middle):
            high = middle
        else:
            low = middle + 1
    return low


def are_far_enough(sizes, numbers, exponent, length):
    """Whether a length fulfils the conditions of a bound that depend on it."""
    above_one, below, above = numbers
    if not is_at_most(times_number(length + 2, above), times_number(length, number_power(below, 2))):
        return False
    powers = [number_power(above_one, length), number_power(below, length - exponent), number_power(above, length)]
    if not are_far_at(sizes, powers, length):
        return False
    next_powers = [number_product(power, number) for power, number in zip(powers, numbers)]
    return are_far_at(sizes, next_powers, length + 1)


def are_far_at(sizes, powers, length):
    """Whether both conditions of a bound about powers are fulfilled for a length K, by a^K,
    b^(K - s) and c^K."""
    of_one, least, of_other = powers
    if not is_at_most(times_number(2 * sizes[0], of_one), least):
        return False
    times = length * length * sizes[1] * sizes[1]
    return is_at_most(times_number(times, of_other), number_product(least, least))


def is_bound_of(one, other, thing):
    """Whether any value is a bound for two webs, of which the second one has the period 1."""
    if not isinstance(thing, tuple) or len(thing) != 8:
        return False
    length, above_one, row_one, below, row_below, above, row_above, exponent = thing
    if not is_integer_from(exponent, full_exponent(other)) or exponent > MOST_EXPONENT:
        return False
    if not is_integer_from(length, exponent) or not is_integer_below(length, MOST_LENGTH + 1):
        return False
    numbers = (above_one, below, above)
    # The growth of one is above 0, and so are a and, as it is not less, b.
    if not all([is_number(number) and number[0] > 0 for number in numbers]):
        return False
    if not shows_at_most(one, above_one, row_one, -1) or not shows_at_most(other, above, row_above, -1):
        return False
    if not shows_at_most(other, below, row_below, 1) or not is_at_most(above_one, below):
        return False
    return are_far_enough(sizes_of(one, other), numbers, exponent, length)


def barred_lengths(one, other):
    """The list of all lengths at which the first web has more told rounds than the second one,
    if this has the period 1 and more growth."""
    # From the bound's length on there are none.
    most = bound_of(one, other)[0] - 1
    pairs = list(zip(told_totals(one, most), told_totals(other, most)))
    return [length for length, pair in enumerate(pairs, start=1) if pair[0] > pair[1]]
