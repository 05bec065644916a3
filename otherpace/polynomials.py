"""Polynomials of tables: tuples of integers that begin with a 1.

The fraction's bottom det(1 - t A), by ascending powers of t, has the same coefficients as
det(x - A) by descending powers of x. So a row stands for both polynomials here, and a row
without zeros at the end tells all roots of det(x - A) but 0.
"""

from otherpace.ratios import without_divisor
from otherpace.tables import row_product, table_product, unit_table


def bottom_row(table):
    """The coefficients of det(1 - t A) by ascending powers of t, zeros at the end included."""
    rooms = list(range(len(table)))
    row = [1]
    last = unit_table(len(table))
    for order in range(1, len(table) + 1):
        led = table_product(table, last)
        # The division leaves no rest: U. Le Verrier's way to the coefficients, by traces.
        item = -sum([led[i][i] for i in rooms]) // order
        row.append(item)
        last = [[led[i][j] + item if i == j else led[i][j] for j in rooms] for i in rooms]
    return tuple(row)


def bottom_without_zeros(table):
    """The fraction's bottom: the same without the zeros at the end."""
    row = bottom_row(table)
    end = len(row)
    while row[end - 1] == 0:
        end -= 1
    return row[:end]


def determinant(table):
    """The determinant of a table with as many rows as columns, 1 if it has none."""
    last = bottom_row(table)[-1]
    return last if len(table) & 1 == 0 else -last


def power_sum(row, exponent, modulus):
    """The sum of the powers of all roots with this exponent, from 1 on.

    It is exact if the modulus is 0, otherwise the remainder modulo this.
    """
    total = row_product(power_rest(row, exponent, modulus), first_power_sums(row))
    return remainder(total, modulus)


def first_power_sums(row):
    """The list of the sums of the powers of all roots, for the exponents below their number."""
    sums = [len(row) - 1]
    for order in range(1, len(row) - 1):
        # I. Newton's sums.
        known = sum([row[at] * sums[order - at] for at in range(1, order)])
        sums.append(-order * row[order] - known)
    return sums


def power_rest(row, exponent, modulus):
    """What the division of a power of x by the polynomial leaves: the list of the coefficients
    by ascending powers of x."""
    rest = [1] + [0] * (len(row) - 2)
    for at in reversed(range(exponent.bit_length())):
        rest = rest_of(row, row_times(rest, rest), modulus)
        if (exponent >> at) & 1:
            rest = rest_of(row, [0] + rest, modulus)
    return rest


def row_times(one, other):
    """The list of the coefficients of the product of two polynomials."""
    found = [0] * (len(one) + len(other) - 1)
    for i, x in enumerate(one):
        for j, y in enumerate(other):
            found[i + j] += x * y
    return found


def rest_of(row, ascending, modulus):
    """What the division of a polynomial, by ascending powers of x, by another one leaves."""
    left = list(ascending)
    degree = len(row) - 1
    while len(left) > degree:
        item = left.pop()
        end = len(left)
        for at in range(1, degree + 1):
            left[end - at] -= item * row[at]
    return [remainder(item, modulus) for item in left]


def remainder(number, modulus):
    """The remainder modulo this, the number itself if it is 0."""
    return number if modulus == 0 else number % modulus


def without_first(row, other, times):
    """The list of the items of a row less the other row so many times, both from the first item
    on; without this item, which is 0 then."""
    longer = list(other) + [0] * (len(row) - len(other))
    return [x - times * y for x, y in zip(row, longer)][1:]


def quotient(row, divisor):
    """The polynomial that a polynomial that divides another one leaves of it."""
    found = []
    left = row
    while len(left) >= len(divisor):
        found.append(left[0])
        left = without_first(left, divisor, left[0])
    return tuple(found)


def common_factor(one, other):
    """The greatest common divisor of two polynomials."""
    left, right = one, other
    while right:
        left, right = right, scaled_rest(left, right)
    # It divides polynomials that begin with 1, so its first item divides all others.
    return tuple([item // left[0] for item in left])


def scaled_rest(one, other):
    """What the division of a polynomial by another one leaves, times a number and without a
    common divisor; () if it leaves nothing."""
    left = one
    while len(left) >= len(other):
        left = without_first([item * other[0] for item in left], other, left[0])
    while left and left[0] == 0:
        left = left[1:]
    return without_divisor(left) if left else ()


def shifted(row, top, bottom):
    """The coefficients of det(x - A) at (top + y) / bottom, by ascending powers of y, times a
    power of the bottom: they have the signs of the value and its derivatives at top / bottom."""
    found = []
    left = scaled(row, bottom)
    while left:
        # W. Horner's way: each time one more power is divided off.
        item = 0
        led = []
        for part in left:
            item = item * top + part
            led.append(item)
        found.append(item)
        left = led[:-1]
    return found


def scaled(row, times):
    """The list of the items, each times the power of a number whose exponent is its place."""
    found = []
    power = 1
    for item in row:
        found.append(item * power)
        power = power * times
    return found


def value_at_table(row, table, column):
    """The polynomial at a table instead of x, times a column, which is a row of integers here."""
    found = [0] * len(column)
    for item in row:
        led = [row_product(line, found) for line in table]
        found = [x + item * y for x, y in zip(led, column)]
    return found
