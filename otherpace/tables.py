"""Products and powers of tables of integers."""


def unit_table(many):
    """The table with so many rows that has ones on the diagonal and zeros elsewhere."""
    rooms = list(range(many))
    return tuple([tuple([int(i == j) for j in rooms]) for i in rooms])


def turned(table):
    """The table whose rows are the columns of this one, as a tuple of tuples."""
    return tuple(zip(*table))


def table_product(one, other):
    """The product of two tables, as a tuple of tuples."""
    columns = turned(other)
    return tuple([tuple([row_product(row, column) for column in columns]) for row in one])


def row_product(one, other):
    """The sum of the products of the items of two rows of equal length."""
    return sum([x * y for x, y in zip(one, other)])


def table_power(table, exponent):
    """The power of a square table with an exponent from 0 on."""
    result = unit_table(len(table))
    square = table
    left = exponent
    while left > 0:
        if left & 1:
            result = table_product(result, square)
        left = left // 2
        # The last square would not be needed, and is the most costly one.
        if left > 0:
            square = table_product(square, square)
    return result
