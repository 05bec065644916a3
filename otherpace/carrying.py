"""What deeds make of rounds and prices, there and back."""

from otherpace.checks import check_prices
from otherpace.doing import made_by, webs_on
from otherpace.errors import BadRound, NoPrices, TooMany
from otherpace.reading import longer, shorter
from otherpace.standing import flat, listed, lists_led, walks_for
from otherpace.walks import first_turn, is_told_round
from otherpace.webs import arrows_of, check_web

# The deeds whose result is the finer web: arrows of the web stand for walks of the result.
REFINING = ("unafter", "unbefore", "stretch")
# The deeds that lead price rows along.
PRICED = ("after", "before", "pass", "turn", "stretch")
# A round on the way that is longer than this, or than the most that is wanted, is not followed.
MOST_ON_THE_WAY = 1000000


def walks_of(web, deed):
    """The tuple of the walks for which the arrows of the result, or of the web, stand."""
    check_web(web)
    result = made_by(web, deed)
    if deed[0] == "stretch":
        # Only the first arrow's walk has two arrows, and the others lose at most one number.
        return tuple([tuple(longer(result, deed, (arrow,), 2)) for arrow in arrows_of(web)])
    if deed[0] in REFINING:
        return walks_for(result, (deed[0].removeprefix("un"),) + deed[1:])
    return walks_for(web, deed)


def check_told(web, lap):
    """Raise BadRound for any value that is not a told round of what is surely a web."""
    if not is_told_round(web, lap):
        raise BadRound(lap)


def led_on(webs, deed, lap, most):
    """The told round of the second one of two webs that a told round of the first one becomes."""
    if deed[0] in REFINING:
        return first_turn(longer(webs[1], deed, lap, most))
    return first_turn(shorter(webs[0], deed, lap))


def led_back(webs, deed, lap, most):
    """The told round of the first one of two webs that becomes a told round of the second one."""
    if deed[0] in REFINING:
        return first_turn(shorter(webs[1], deed, lap))
    return first_turn(longer(webs[0], deed, lap, most))


def check_many(lap, limit, most):
    """Raise TooMany for a round with more arrows than a limit."""
    if len(lap) > limit:
        raise TooMany(most)


def carried(web, deed, lap, *, most=4096):
    """The told round of the result that a told round of the web becomes."""
    check_web(web)
    result = made_by(web, deed)
    check_told(web, lap)
    found = led_on((web, result), deed, lap, most)
    check_many(found, most, most)
    return found


def carried_back(web, deed, lap, *, most=4096):
    """The told round of the web that becomes a told round of the result."""
    check_web(web)
    result = made_by(web, deed)
    check_told(result, lap)
    found = led_back((web, result), deed, lap, most)
    check_many(found, most, most)
    return found


def chain_carried(web, chain, lap, *, most=4096):
    """The told round that a told round of the web becomes by all deeds of a chain."""
    check_web(web)
    webs = webs_on(web, chain)
    check_told(web, lap)
    found = led_over(webs, chain, lap, most)
    check_many(found, most, most)
    return found


def led_over(webs, chain, lap, most):
    """The told round of the last web that a told round of the first one becomes, however long."""
    limit = max(most, MOST_ON_THE_WAY)
    found = lap
    for at, deed in enumerate(chain):
        found = led_on(webs[at:at + 2], deed, found, limit)
        check_many(found, limit, most)
    return found


def chain_carried_back(web, chain, lap, *, most=4096):
    """The told round of the web that becomes a told round of what a chain makes."""
    check_web(web)
    webs = webs_on(web, chain)
    check_told(webs[-1], lap)
    found = led_over_back(webs, chain, lap, most)
    check_many(found, most, most)
    return found


def led_over_back(webs, chain, lap, most):
    """The told round of the first web that becomes a told round of the last one, however long."""
    limit = max(most, MOST_ON_THE_WAY)
    found = lap
    for at in reversed(range(len(chain))):
        found = led_back(webs[at:at + 2], chain[at], found, limit)
        check_many(found, limit, most)
    return found


def prices_carried(web, deed, prices):
    """The price row of the result, in which each round has the price of the one that became it."""
    check_web(web)
    made_by(web, deed)
    check_prices(web, prices)
    if deed[0] not in PRICED:
        raise NoPrices(deed)
    return flat(lists_led(listed(web, prices), deed))
