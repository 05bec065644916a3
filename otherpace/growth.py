"""The growth of webs, compared by whole numbers."""

from otherpace.checks import check_integer, check_number
from otherpace.growing import growth_against, growth_floor_of, growths_differ, number_between
from otherpace.growing import slack_row, slopes, steep_row, table_between
from otherpace.kinds import is_number, is_paper, is_row_from
from otherpace.polynomials import bottom_without_zeros
from otherpace.tables import table_product
from otherpace.webs import check_web


def judge_growth(web, number):
    """A paper that tells whether the growth is less than, greater than or equal to a number."""
    check_web(web)
    check_number(number)
    sign = growth_against(bottom_without_zeros(web), number)
    if sign > 0:
        return ("above", steep_row(web, number))
    return ("below" if sign < 0 else "equal", slack_row(web, number))


def growth_holds(web, number, thing):
    """Whether any value is a right paper for a number, as judge_growth returns them."""
    check_web(web)
    check_number(number)
    for kind, sign in (("below", -1), ("above", 1)):
        if is_paper(thing, kind, 2):
            return shows_at_most(web, number, thing[1], sign) and not shows_equal(web, number, thing[1])
    return is_paper(thing, "equal", 2) and shows_equal(web, number, thing[1])


def shows_at_most(web, number, thing, sign):
    """Whether any value is a row of integers from 1 on that shows that the growth is at most a
    number, for the sign -1, or at least the number, for the sign 1."""
    if not is_row_from(thing, len(web), 1):
        return False
    return min([sign * item for item in slopes(web, number, thing)]) >= 0


def shows_equal(web, number, thing):
    """Whether any value is a row of integers from 1 on that shows that the growth is a number."""
    return shows_at_most(web, number, thing, -1) and shows_at_most(web, number, thing, 1)


def judge_growths(one, other):
    """A paper that tells which of two webs has less growth, or that both have the same."""
    check_web(one)
    check_web(other)
    if not growths_differ(one, other):
        return ("equal", table_between(one, other))
    is_less, number = number_between(one, other)
    if is_less:
        return ("less", number, slack_row(one, number), steep_row(other, number))
    return ("more", number, steep_row(one, number), slack_row(other, number))


def growths_hold(one, other, thing):
    """Whether any value is a right paper for two webs, as judge_growths returns them."""
    check_web(one)
    check_web(other)
    for kind, sign in (("less", -1), ("more", 1)):
        if is_paper(thing, kind, 4):
            return parts_growths(one, other, thing, sign)
    return is_paper(thing, "equal", 2) and is_fitting_table(one, other, thing[1])


def parts_growths(one, other, paper, sign):
    """Whether the number and the rows of a paper show that the first web has less growth than the
    other one, for the sign -1, or more, for the sign 1."""
    number, row, other_row = paper[1:]
    if not is_number(number):
        return False
    if not shows_at_most(one, number, row, sign) or not shows_at_most(other, number, other_row, -sign):
        return False
    return not shows_equal(one, number, row) or not shows_equal(other, number, other_row)


def is_fitting_table(one, other, thing):
    """Whether any value is a table F, not of zeros alone, such that A F is equal to F B."""
    if not isinstance(thing, tuple) or len(thing) != len(one):
        return False
    if not all([is_row_from(row, len(other), 0) for row in thing]):
        return False
    if not any([item > 0 for row in thing for item in row]):
        return False
    return table_product(one, thing) == table_product(thing, other)


def growth_floor(web, bits):
    """The greatest integer a such that a / 2^bits is at most the growth."""
    check_web(web)
    check_integer(bits, 0)
    return growth_floor_of(web, bits)
