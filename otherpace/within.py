"""Whether one web has, for every length, at most as many told rounds as another one."""

from otherpace.bounding import barred_lengths, bound_of, is_bound_of
from otherpace.checks import check_length
from otherpace.errors import BadPeriod, NotMore
from otherpace.growing import grows_less
from otherpace.kinds import is_integer_from, is_paper
from otherpace.numbers import MOST_LENGTH
from otherpace.pricing import period_of_web
from otherpace.totals import told_total
from otherpace.webs import check_web


def check_pair(one, other):
    """Raise BadWeb, BadPeriod or NotMore for values that are not two webs of which the second
    one has the period 1 and more growth."""
    check_web(one)
    check_web(other)
    period = period_of_web(other)
    if period != 1:
        raise BadPeriod(period)
    if not grows_less(one, other):
        raise NotMore()


def judge_within(one, other):
    """A paper that tells whether one has at most as many told rounds of each length as other."""
    check_pair(one, other)
    return judge_pair(one, other)


def judge_pair(one, other):
    """The same as judge_within, for what surely fits."""
    barring = barred_lengths(one, other)
    return ("length", barring[0]) if barring else ("within", bound_of(one, other))


def within_holds(one, other, thing):
    """Whether any value is a right paper for two webs, as judge_within returns them."""
    check_pair(one, other)
    if is_paper(thing, "within", 2):
        # Below a bound are all lengths that bar, or there are none.
        return is_bound_of(one, other, thing[1]) and not barred_lengths(one, other)
    return is_paper(thing, "length", 2) and is_barring(one, other, thing[1])


def is_barring(one, other, thing):
    """Whether any value is a length up to 4,000 at which one has more told rounds than other."""
    if not is_integer_from(thing, 1) or thing > MOST_LENGTH:
        return False
    return spare_of(one, other, thing) < 0


def is_bound(one, other, thing):
    """Whether any value is a bound for two webs."""
    check_pair(one, other)
    return is_bound_of(one, other, thing)


def spare(one, other, length):
    """How many more told rounds of a length other has than one."""
    check_pair(one, other)
    check_length(length, 1)
    return spare_of(one, other, length)


def spare_of(one, other, length):
    """The same as spare, for what surely fits."""
    return told_total(other, length) - told_total(one, length)


def barring_lengths(one, other):
    """The ascending tuple of all lengths at which one has more told rounds than other."""
    check_pair(one, other)
    return tuple(barred_lengths(one, other))
