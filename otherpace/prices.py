"""Price rows and heights: which rows ask the same of every round, exactly or modulo m."""

from otherpace.checks import check_integer, check_prices
from otherpace.errors import BadHeights, BadNumbers, BadWalk
from otherpace.kinds import is_paper, is_row
from otherpace.pricing import period_of_web, plain_of, price_of, row_less, slope_of, tree_from, tree_heights
from otherpace.pricing import walks_from
from otherpace.ratios import common_divisor
from otherpace.walks import is_round_of, is_walk_of
from otherpace.webs import arrows_many, arrows_of, check_web


def is_price_row(web, thing):
    """Whether any value is a price row of the web."""
    check_web(web)
    return is_row(thing, arrows_many(web))


def price(web, prices, walk):
    """The price of a walk: the sum of the prices of its arrows."""
    check_web(web)
    check_prices(web, prices)
    if not is_walk_of(web, walk):
        raise BadWalk(walk)
    return price_of(web, prices, walk)


def slope(web, heights):
    """The price row in which an arrow from i to j has the price h[j] - h[i]."""
    check_web(web)
    if not is_row(heights, len(web)):
        raise BadHeights(heights)
    return slope_of(web, heights)


def first_tree(web):
    """The ascending tuple of the arrows of the first tree."""
    check_web(web)
    return tuple(sorted(tree_from(web, 0)))


def plain_prices(web, prices):
    """The plain price row that agrees with a price row."""
    check_web(web)
    check_prices(web, prices)
    return plain_of(web, prices)


def price_numbers(web, prices):
    """The numbers of a price row: the plain prices of the arrows outside the first tree."""
    check_web(web)
    check_prices(web, prices)
    return numbers_of(web, prices)


def numbers_of(web, prices):
    """The same as price_numbers, for what is surely a web and a price row of it."""
    tree = tree_from(web, 0)
    steps = list(zip(arrows_of(web), plain_of(web, prices)))
    return tuple([worth for arrow, worth in steps if arrow not in tree])


def step_of(web, prices):
    """The greatest integer that divides the prices of all rounds, 0 if all of these are 0."""
    check_web(web)
    check_prices(web, prices)
    return common_divisor(numbers_of(web, prices))


def prices_of(web, numbers):
    """The plain price row with these numbers."""
    check_web(web)
    if not is_row(numbers, arrows_many(web) - (len(web) - 1)):
        raise BadNumbers(numbers)
    tree = tree_from(web, 0)
    row = []
    used = 0
    for arrow in arrows_of(web):
        if arrow in tree:
            row.append(0)
        else:
            row.append(numbers[used])
            used += 1
    return tuple(row)


def judge_agree(web, one, other):
    """A paper that tells whether two price rows ask the same of every round."""
    check_web(web)
    check_prices(web, one)
    check_prices(web, other)
    return judge_row(web, row_less(one, other), 0)


def agree_holds(web, one, other, thing):
    """Whether any value is a right paper for two price rows, as judge_agree returns them."""
    check_web(web)
    check_prices(web, one)
    check_prices(web, other)
    return row_holds(web, row_less(one, other), 0, thing)


def judge_modulo(web, one, other, m):
    """A paper that tells whether two price rows ask the same of every round modulo m."""
    check_web(web)
    check_prices(web, one)
    check_prices(web, other)
    check_integer(m, 1)
    return judge_row(web, row_less(one, other), m)


def modulo_holds(web, one, other, m, thing):
    """Whether any value is a right paper for two price rows and m, as judge_modulo returns them."""
    check_web(web)
    check_prices(web, one)
    check_prices(web, other)
    check_integer(m, 1)
    return row_holds(web, row_less(one, other), m, thing)


def is_multiple(number, m):
    """Whether an integer is a multiple of an integer from 0 on; only 0 is one of 0."""
    return number == 0 if m == 0 else number % m == 0


def judge_row(web, row, m):
    """A paper that tells whether the prices of all rounds are multiples of m, from 0 on."""
    for arrow, worth in zip(arrows_of(web), plain_of(web, row)):
        if not is_multiple(worth, m):
            return ("round", round_with(web, row, arrow, m))
    heights = tree_heights(web, row)
    return ("heights", tuple([height if m == 0 else height % m for height in heights]))


def round_with(web, row, arrow, m):
    """A round whose price is not a multiple of m, by an arrow whose plain price is none."""
    walks = walks_from(web, 0)
    back = walks_from(web, arrow[1])[0]
    lap = walks[arrow[0]] + (arrow,) + back
    if not is_multiple(price_of(web, row, lap), m):
        return lap
    # The walk of the tree to the same room has the plain price 0, so it makes the difference.
    return walks[arrow[1]] + back


def row_holds(web, row, m, thing):
    """Whether any value is a right paper that the prices of all rounds are multiples of m, or
    that they are not."""
    if is_paper(thing, "heights", 2):
        return heights_hold(web, row, m, thing[1])
    if not is_paper(thing, "round", 2) or not is_round_of(web, thing[1]):
        return False
    return not is_multiple(price_of(web, row, thing[1]), m)


def heights_hold(web, row, m, thing):
    """Whether any value is heights whose slope is congruent to the row modulo m, with 0 for
    room 0 and, if m is not 0, all below m."""
    if not is_row(thing, len(web)) or thing[0] != 0:
        return False
    if m > 0 and not all([0 <= height < m for height in thing]):
        return False
    return all([is_multiple(item, m) for item in row_less(row, slope_of(web, thing))])


def period_of(web):
    """The greatest integer that divides the lengths of all rounds."""
    check_web(web)
    return period_of_web(web)
