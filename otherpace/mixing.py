"""Two prices at once: the polygon of the points of all rounds, and whether a point lies in it."""

from math import lcm

from otherpace.checks import check_prices
from otherpace.errors import BadPoint
from otherpace.hulls import direction_from, hull_of, weights_within
from otherpace.kinds import is_integer, is_integer_from, is_number, is_paper
from otherpace.pricing import price_of
from otherpace.ratios import lowest, without_divisor
from otherpace.rates import least_rate_of
from otherpace.simple import is_simple_told, simple_rounds_of
from otherpace.webs import check_web
from otherpace.weighing import heights_fit, judge_weights, weights_for


def check_rows(web, one, other):
    """Raise BadWeb for any value that is not a web, then BadPrices for the first of two that is
    not a price row of it."""
    check_web(web)
    check_prices(web, one)
    check_prices(web, other)


def check_point(point):
    """Raise BadPoint for any value that is not a tuple of two numbers."""
    if not isinstance(point, tuple) or len(point) != 2 or not all([is_number(part) for part in point]):
        raise BadPoint(point)


def corners(web, one, other):
    """The tuple of the corners of the polygon, each a pair of numbers, in ascending order."""
    check_rows(web, one, other)
    scale = length_scale(web)
    hull = hull_of(sorted(placed_rounds(web, one, other, scale)))
    return tuple([(lowest(x, scale), lowest(y, scale)) for x, y in sorted(hull)])


def length_scale(web):
    """A number that is a multiple of the lengths of all simple rounds."""
    scale = 1
    for length in range(1, len(web) + 1):
        scale = lcm(scale, length)
    return scale


def placed_rounds(web, one, other, scale):
    """A simple told round for each point of such rounds: a dict from the point, times a scale."""
    placed = {}
    for lap in simple_rounds_of(web):
        times = scale // len(lap)
        place = (price_of(web, one, lap) * times, price_of(web, other, lap) * times)
        if place not in placed:
            placed[place] = lap
    return placed


def judge_point(web, one, other, point):
    """A paper that tells whether a pair of numbers lies in the polygon."""
    check_rows(web, one, other)
    check_point(point)
    (x_top, x_bottom), (y_top, y_bottom) = point
    finer = lcm(x_bottom, y_bottom)
    scale = length_scale(web) * finer
    placed = placed_rounds(web, one, other, scale)
    place = (x_top * (scale // x_bottom), y_top * (scale // y_bottom))
    hull = hull_of(sorted(placed))
    weights = weights_within(hull, place)
    if weights:
        return ("mixed", mixed_parts([(placed[corner], weight) for corner, weight in weights], scale))
    a, b = without_divisor(direction_from(hull, place))
    return outside_paper(web, a, b, mixed_row(one, other, a, b))


def mixed_parts(weighed, scale):
    """The tuple of pairs of rounds and how often each is counted, by the weights of their points."""
    # A point weighs as much as its round has arrows, so long rounds are counted less often.
    many = without_divisor([weight * (scale // len(lap)) for lap, weight in weighed])
    return tuple([(pair[0], times) for pair, times in zip(weighed, many)])


def mixed_row(one, other, a, b):
    """The price row a times one plus b times the other."""
    return tuple([a * x + b * y for x, y in zip(one, other)])


def outside_paper(web, a, b, row):
    """The paper that all rounds have at least the least rate of the row a times one plus b times
    the other."""
    ones = (1,) * len(row)
    number = least_rate_of(web, row, ones)
    heights = judge_weights(web, weights_for(row, ones, number))[1]
    return ("outside", a, b, number, heights)


def point_holds(web, one, other, point, thing):
    """Whether any value is a right paper for a pair of numbers, as judge_point returns them."""
    check_rows(web, one, other)
    check_point(point)
    if is_paper(thing, "mixed", 2):
        return mixed_holds(web, one, other, point, thing[1])
    if not is_paper(thing, "outside", 5):
        return False
    a, b, number, heights = thing[1:]
    if not is_integer(a) or not is_integer(b) or not is_number(number):
        return False
    if not is_beyond(a, b, number, point):
        return False
    row = mixed_row(one, other, a, b)
    return heights_fit(web, weights_for(row, (1,) * len(row), number), heights)


def is_beyond(a, b, number, point):
    """Whether a number is greater than a x + b y at a point."""
    (x_top, x_bottom), (y_top, y_bottom) = point
    total = a * x_top * y_bottom + b * y_top * x_bottom
    return number[0] * x_bottom * y_bottom > number[1] * total


def mixed_holds(web, one, other, point, thing):
    """Whether any value is simple told rounds with integers from 1 on that give a point."""
    if not isinstance(thing, tuple) or len(thing) == 0:
        return False
    if not all([is_part(web, part) for part in thing]):
        return False
    length = sum([times * len(lap) for lap, times in thing])
    for prices, number in zip((one, other), point):
        total = sum([times * price_of(web, prices, lap) for lap, times in thing])
        if number[1] * total != number[0] * length:
            return False
    return True


def is_part(web, thing):
    """Whether any value is a pair of a simple told round and an integer from 1 on."""
    if not isinstance(thing, tuple) or len(thing) != 2:
        return False
    return is_simple_told(web, thing[0]) and is_integer_from(thing[1], 1)
