"""The growth of a web, compared with numbers and with the growth of another web.

A polynomial row tells all roots but 0, as in polynomials; none is farther from 0 than the
growth, and only the growth itself is as great. So at each greater number the polynomial and all
its derivatives are above 0, and at the growth itself all derivatives are.
"""

from otherpace.polynomials import bottom_row, bottom_without_zeros, common_factor, quotient, shifted, value_at_table
from otherpace.ratios import lowest, without_divisor
from otherpace.tables import row_product, turned


def growth_against(row, number):
    """1 if the growth that belongs to a polynomial is greater than a number, 0 if it is equal,
    -1 if it is less."""
    parts = shifted(row, number[0], number[1])
    if min(parts[1:]) <= 0:
        return 1
    return int(parts[0] < 0) - int(parts[0] > 0)


def growth_floor_of(web, bits):
    """The greatest integer a such that a / 2^bits is at most the growth."""
    polynomial = bottom_without_zeros(web)
    # The growth is at most the greatest number of arrows that begin in a room.
    low, high = 1 << bits, max([sum(row) for row in web]) << bits
    while low < high:
        middle = (low + high + 1) // 2
        if growth_against(polynomial, (middle, 1 << bits)) >= 0:
            low = middle
        else:
            high = middle - 1
    return low


def slack_row(web, number):
    """A row of integers from 1 on that shows that the growth is at most a number, and in each
    room that it is less, or that it is equal, as it is.

    With x = top / bottom it is (x - A)^-1 times det(x - A), of whose columns the sum is taken,
    times a power of the bottom: by D. Faddeev's way to the adjugate table. (x - A) times it has
    det(x - A) in each room.
    """
    top, bottom = number
    ones = [1] * len(web)
    column = ones
    found = ones
    power = 1
    for item in bottom_row(web)[1:-1]:
        power = power * bottom
        column = [row_product(row, column) + item for row in web]
        found = [x * top + y * power for x, y in zip(found, column)]
    return without_divisor(found)


def steep_row(web, number):
    """A row of integers from 1 on that shows that the growth is greater than a number, as it is."""
    bits = 2
    row = slack_row(web, just_above(web, bits))
    while min(slopes(web, number, row)) < 0:
        # The nearer the number for the row comes to the growth, the less it fails to show.
        bits = bits * 2
        row = slack_row(web, just_above(web, bits))
    return row


def just_above(web, bits):
    """A number above the growth, by at most 1 / 2^bits."""
    return (growth_floor_of(web, bits) + 1, 1 << bits)


def slopes(web, number, row):
    """The list of bottom times A v, less top times v, room by room, for a row v."""
    return [number[1] * row_product(line, row) - number[0] * item for line, item in zip(web, row)]


def growths_differ(one, other):
    """Whether two webs have unlike growth."""
    factor = factor_of(one, other)
    return not is_growth_root(one, factor) or not is_growth_root(other, factor)


def factor_of(one, other):
    """The greatest common divisor of the polynomials of two webs."""
    return common_factor(bottom_without_zeros(one), bottom_without_zeros(other))


def is_growth_root(web, factor):
    """Whether the growth is a root of a polynomial that divides the one of the web.

    It is a root of the divisor or of the quotient, not of both. At a number just below the
    growth the one of which it is no root is above 0 with all its derivatives.
    """
    rest = quotient(bottom_without_zeros(web), factor)
    bits = 0
    while True:
        number = (growth_floor_of(web, bits), 1 << bits)
        if min(shifted(rest, number[0], number[1])) > 0:
            return True
        if min(shifted(factor, number[0], number[1])) > 0:
            return False
        bits = bits * 2 + 2


def number_between(one, other):
    """For two webs with unlike growth the pair of whether the first one has less, and a number
    between both growths."""
    bits = 0
    while True:
        low, high = growth_floor_of(one, bits), growth_floor_of(other, bits)
        # Two steps leave room for a number at least one step below the greater growth.
        if abs(low - high) > 1:
            return (low < high, lowest(min(low, high) + 1, 1 << bits))
        bits += 2


def grows_less(one, other):
    """Whether the first one of two webs has less growth."""
    return growths_differ(one, other) and number_between(one, other)[0]


def table_between(one, other):
    """For two webs with the same growth a table F as in [4.3].

    With the polynomial g that both have in common, and h and k for what is left of theirs, the
    sum of g's coefficients times A^i Y B^j over all i and j is such a table for Y = h(A) X k(B),
    whatever X is; A and B are the tables of the webs. X is a column times a row here, which lie
    so near to the ones that A and B multiply by the growth that F has no item below 0.
    """
    factor = factor_of(one, other)
    bits = 2
    table = led_table(one, other, factor, bits)
    while min([min(row) for row in table]) <= 0:
        bits = bits * 2
        table = led_table(one, other, factor, bits)
    return without_divisor_in(table)


def led_table(one, other, factor, bits):
    """The table as in table_between, with a column and a row for a number just above the growth."""
    number = just_above(one, bits)
    columns = led_columns(one, factor, number)
    rows = led_columns(turned(other), factor, number)
    table = [[0] * len(other) for room in one]
    for i, column in enumerate(columns):
        for j, row in enumerate(rows[:len(columns) - i]):
            item = factor[len(columns) - 1 - i - j]
            table = [[x + item * y * z for x, z in zip(line, row)] for line, y in zip(table, column)]
    return table


def led_columns(web, factor, number):
    """The list of A^i h(A) times a column for each i below the number of the factor's roots."""
    rest = quotient(bottom_row(web), factor)
    columns = [value_at_table(rest, web, slack_row(web, number))]
    for _ in range(len(factor) - 2):
        columns.append([row_product(line, columns[-1]) for line in web])
    return columns


def without_divisor_in(table):
    """The tuple of the rows, all items divided by their greatest common divisor."""
    many = len(table[0])
    items = without_divisor([item for row in table for item in row])
    return tuple([items[at:at + many] for at in range(0, len(items), many)])
