"""Prices for each unit of time: the least and the greatest rate of all rounds."""

from otherpace.checks import check_number, check_prices, check_times
from otherpace.kinds import is_paper
from otherpace.pricing import price_of, row_less, slope_of
from otherpace.ratios import lowest
from otherpace.walks import is_round_of
from otherpace.webs import arrows_of, check_web, reached_from
from otherpace.weighing import heights_fit, judge_weights, weights_for


def least_rate(web, prices, times):
    """The greatest number so that each round's price is at least so much times its time."""
    check_web(web)
    check_prices(web, prices)
    check_times(web, times)
    return least_rate_of(web, prices, times)


def least_rate_of(web, prices, times):
    """The same as least_rate, for what is surely a web and rows of it."""
    # No round has such a rate, so the first paper shows one with a smaller rate.
    rate = (max([abs(worth) for worth in prices]) + 1, 1)
    kind, found = judge_weights(web, weights_for(prices, times, rate))
    while kind == "round":
        rate = lowest(price_of(web, prices, found), price_of(web, times, found))
        kind, found = judge_weights(web, weights_for(prices, times, rate))
    return rate


def greatest_rate(web, prices, times):
    """The least number so that each round's price is at most so much times its time."""
    check_web(web)
    check_prices(web, prices)
    check_times(web, times)
    top, bottom = least_rate_of(web, tuple([-worth for worth in prices]), times)
    return (-top, bottom)


def tight_arrows(web, prices, times):
    """The ascending tuple of the arrows that lie on rounds with exactly the least rate."""
    check_web(web)
    check_prices(web, prices)
    check_times(web, times)
    weights = weights_for(prices, times, least_rate_of(web, prices, times))
    heights = judge_weights(web, weights)[1]
    spares = row_less(weights, slope_of(web, heights))
    # A round has the least rate exactly if nothing is to spare on any of its arrows.
    close = [arrow for arrow, spare in zip(arrows_of(web), spares) if spare == 0]
    table = [[0] * len(web) for room in web]
    for arrow in close:
        table[arrow[0]][arrow[1]] += 1
    return tuple([arrow for arrow in close if arrow[0] in reached_from(table, arrow[1])])


def judge_at_least(web, prices, times, number):
    """A paper that tells whether each round's price is at least a number times its time."""
    check_web(web)
    check_prices(web, prices)
    check_times(web, times)
    check_number(number)
    return judge_weights(web, weights_for(prices, times, number))


def at_least_holds(web, prices, times, number, thing):
    """Whether any value is a right paper for rows and a number, as judge_at_least returns them."""
    check_web(web)
    check_prices(web, prices)
    check_times(web, times)
    check_number(number)
    weights = weights_for(prices, times, number)
    if is_paper(thing, "heights", 2):
        return heights_fit(web, weights, thing[1])
    if not is_paper(thing, "round", 2) or not is_round_of(web, thing[1]):
        return False
    return price_of(web, weights, thing[1]) < 0
