"""Polynomials of tables: tuples of integers that begin with a 1.

The fraction's bottom det(1 - t A), by ascending powers of t, has the same coefficients as
det(x - A) by descending powers of x. So a row stands for both polynomials here, and a row
without zeros at the end tells all roots of det(x - A) but 0.
"""

from otherpace.tables import row_product, table_product, unit_table


def bottom_row(table):
    """The coefficients of det(1 - t A) by ascending powers of t, zeros at the end included."""
    rooms = list(range(len(table)))
    row = [1]
    last = unit_table(len(table))
    for order in range(1, len(table) + 1):
        led = table_product(table, last)
        # The division leaves no rest: U. Le Verrier's way to the coefficients, by traces.
        item = -sum([led[i][i] for i in rooms]) // order
        row.append(item)
        last = [[led[i][j] + item if i == j else led[i][j] for j in rooms] for i in rooms]
    return tuple(row)


def bottom_without_zeros(table):
    """The fraction's bottom: the same without the zeros at the end."""
    row = bottom_row(table)
    end = len(row)
    while row[end - 1] == 0:
        end -= 1
    return row[:end]


def power_sum(row, exponent, modulus):
    """The sum of the powers of all roots with this exponent, from 1 on.

    It is exact if the modulus is 0, otherwise the remainder modulo this.
    """
    total = row_product(power_rest(row, exponent, modulus), first_power_sums(row))
    return remainder(total, modulus)


def first_power_sums(row):
    """The list of the sums of the powers of all roots, for the exponents below their number."""
    sums = [len(row) - 1]
    for order in range(1, len(row) - 1):
        # I. Newton's sums.
        known = sum([row[at] * sums[order - at] for at in range(1, order)])
        sums.append(-order * row[order] - known)
    return sums


def power_rest(row, exponent, modulus):
    """What the division of a power of x by the polynomial leaves: the list of the coefficients
    by ascending powers of x."""
    rest = [1] + [0] * (len(row) - 2)
    for at in reversed(range(exponent.bit_length())):
        rest = rest_of(row, row_times(rest, rest), modulus)
        if (exponent >> at) & 1:
            rest = rest_of(row, [0] + rest, modulus)
    return rest


def row_times(one, other):
    """The list of the coefficients of the product of two polynomials."""
    found = [0] * (len(one) + len(other) - 1)
    for i, x in enumerate(one):
        for j, y in enumerate(other):
            found[i + j] += x * y
    return found


def rest_of(row, ascending, modulus):
    """What the division of a polynomial, by ascending powers of x, by another one leaves."""
    left = list(ascending)
    degree = len(row) - 1
    while len(left) > degree:
        item = left.pop()
        end = len(left)
        for at in range(1, degree + 1):
            left[end - at] -= item * row[at]
    return [remainder(item, modulus) for item in left]


def remainder(number, modulus):
    """The remainder modulo this, the number itself if it is 0."""
    return number if modulus == 0 else number % modulus
