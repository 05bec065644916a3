"""Rows modulo a web: which are led together, and the group that they form."""

from math import gcd

from otherpace.checks import check_integer
from otherpace.doing import made_by
from otherpace.errors import BadRow
from otherpace.kinds import is_integer_from, is_paper, is_row
from otherpace.lattices import diagonal_frame, is_divided, plain_by, stairs_of
from otherpace.polynomials import determinant
from otherpace.pricing import row_less
from otherpace.tables import row_product, turned
from otherpace.webs import check_web


def less_web(web):
    """The table 1 - A, where A is the table of the web."""
    return tuple([tuple([int(i == j) - item for j, item in enumerate(row)]) for i, row in enumerate(web)])


def check_row(web, thing):
    """Raise BadRow for any value that is not a row with an integer for each room."""
    if not is_row(thing, len(web)):
        raise BadRow(thing)


def divisors_of(web):
    """The divisors of the web's group: each divides the next one, and none is 1."""
    check_web(web)
    return divisors_in(web)


def divisors_in(web):
    """The same as divisors_of, for what is surely a web."""
    frame = diagonal_frame(less_web(web))
    items = [frame[at][at] for at in range(len(web))]
    return tuple([item for item in items if item != 1])


def sign_of(web):
    """The sign of det(1 - A)."""
    check_web(web)
    return sign_in(web)


def sign_in(web):
    """The same as sign_of, for what is surely a web."""
    worth = determinant(less_web(web))
    return int(worth > 0) - int(worth < 0)


def count_of(web, m):
    """The number of rows f, with items from 0 to m - 1, so that f - A f is congruent to 0 modulo m."""
    check_web(web)
    check_integer(m, 1)
    return count_by(divisors_in(web), m)


def count_by(divisors, m):
    """The same as count_of, for a web with these divisors."""
    many = 1
    for divisor in divisors:
        many = many * gcd(m, divisor)
    return many


def stairs(web):
    """The tuple of the stairs of all rows z - z A."""
    check_web(web)
    return tuple([tuple(row) for row in stairs_of(less_web(web))])


def plain_row(web, row):
    """The plain row that is led together with a row."""
    check_web(web)
    check_row(web, row)
    return tuple(plain_by(stairs_of(less_web(web)), row))


def judge_led(web, one, other):
    """A paper that tells whether two rows are led together."""
    check_web(web)
    check_row(web, one)
    check_row(web, other)
    many = len(web)
    frame = diagonal_frame(less_web(web))
    columns = turned([row[:many] for row in frame[many:]])
    # With D = U (1 - A) V the difference is z (1 - A) if it is z U^-1 D V^-1.
    items = [row_product(row_less(other, one), column) for column in columns]
    for at, item in enumerate(items):
        divisor = frame[at][at]
        if not is_divided(item, divisor):
            return ("apart", divisor, tuple([part if divisor == 0 else part % divisor for part in columns[at]]))
    times = [0 if item == 0 else item // frame[at][at] for at, item in enumerate(items)]
    left = turned([row[many:] for row in frame[:many]])
    return ("led", tuple([row_product(times, column) for column in left]))


def led_holds(web, one, other, thing):
    """Whether any value is a right paper for two rows, as judge_led returns them."""
    check_web(web)
    check_row(web, one)
    check_row(web, other)
    table = less_web(web)
    differences = row_less(other, one)
    if is_paper(thing, "led", 2) and is_row(thing[1], len(web)):
        return tuple([row_product(thing[1], column) for column in turned(table)]) == differences
    if not is_paper(thing, "apart", 3) or not is_integer_from(thing[1], 0) or not is_row(thing[2], len(web)):
        return False
    if not all([is_divided(row_product(row, thing[2]), thing[1]) for row in table]):
        return False
    return not is_divided(row_product(differences, thing[2]), thing[1])


def image(web, deed, row):
    """The row of the result that a row becomes by a deed."""
    check_web(web)
    made_by(web, deed)
    check_row(web, row)
    if deed[0] == "before":
        return with_item(row, deed[2], row[deed[2]] + row[deed[1]] * deed[3])
    if deed[0] == "unbefore":
        return with_item(row, deed[2], row[deed[2]] - row[deed[1]] * deed[3])
    if deed[0] == "pass":
        gone = deed[1]
        led = [item + many * row[gone] for item, many in zip(row, web[gone])]
        return tuple(led[:gone] + led[gone + 1:])
    if deed[0] == "stretch":
        return row + (0,)
    if deed[0] == "turn":
        return tuple([row[room] for room in deed[1]])
    return row


def with_item(row, at, item):
    """The row with another item at a place."""
    return row[:at] + (item,) + row[at + 1:]
