"""The functions of the interface: their files, parameters, arguments that fit, and the errors
that wrong arguments raise, in the sequence in which the document names them."""

import importlib

from otherpace import errors
from tests import plainly, right, taken
from tests.right import is_row
from tests.samples import G, LOOPS

LAP = ((1, 0, 0), (0, 1, 0), (1, 0, 0), (0, 1, 0))
ROUND = ("round", ((0, 1, 0), (1, 0, 0)))
ROWS = (G, (5, 2, 1), (1, 2, 3))
AFTER = (((1, 2), (1, 0)), ("after", 0, 1, 1))
CHAIN = (G, (("pass", 1), ("stretch", 0, 0), ("turn", (1, 0))))
ALIKE = ("alike", (("pass", 1),), ())
BOUND = (8, (3, 2), (4, 3), (2, 1), (1,), (2, 1), (1,), 1)


def is_from(thing, least):
    return plainly.is_integer(thing) and thing >= least


def is_number(thing):
    return is_row(thing, 2) and thing[1] >= 1


def is_arrow_row(web, thing, least=None):
    return is_row(thing, len(plainly.arrows(web))) and (least is None or all(item >= least for item in thing))


# Whether a value fits, where the first argument is surely a web.
RULES = {
    "web": ("BadWeb", lambda web, thing: plainly.is_web(thing)),
    "table": ("BadTable", lambda web, thing: plainly.is_table(thing)),
    "order": ("BadOrder", lambda web, thing: is_row(thing, len(web)) and sorted(thing) == list(range(len(web)))),
    "room": ("BadRoom", lambda web, thing: is_from(thing, 0) and thing < len(web)),
    "length from 0": ("BadLength", lambda web, thing: is_from(thing, 0)),
    "length": ("BadLength", lambda web, thing: is_from(thing, 1)),
    "walk": ("BadWalk", plainly.is_walk),
    "round": ("BadRound", plainly.is_round),
    "prices": ("BadPrices", is_arrow_row),
    "times": ("BadTimes", lambda web, thing: is_arrow_row(web, thing, 1)),
    "heights": ("BadHeights", lambda web, thing: is_row(thing, len(web))),
    "numbers": ("BadNumbers", lambda web, thing: is_row(thing, len(plainly.arrows(web)) - len(web) + 1)),
    "counts": ("BadCounts", lambda web, thing: is_arrow_row(web, thing, 0)),
    "point": ("BadPoint", lambda web, thing: type(thing) is tuple and len(thing) == 2 and all(map(is_number, thing))),
    "integer": ("BadNumber", lambda web, thing: is_from(thing, 0)),
    "m": ("BadNumber", lambda web, thing: is_from(thing, 1)),
    "number": ("BadNumber", lambda web, thing: is_number(thing)),
    "told": ("BadRound", plainly.is_told_round),
    "row": ("BadRow", lambda web, thing: is_row(thing, len(web))),
}


def unfit_pair(args, at):
    """What the functions of part 5 raise for two webs."""
    one, other = args[:2]
    if plainly.period(other) != 1:
        return errors.BadPeriod(plainly.period(other))
    return None if plainly.growth(other) > plainly.growth(one) + 1e-6 else errors.NotMore()


def unfit_deed(args, at):
    if not taken.is_deed(args[0], args[at]):
        return errors.BadDeed(args[at])
    return errors.NoDeed(args[at]) if taken.done(args[0], args[at]) is None else None


def unfit_chain(args, at):
    if not isinstance(args[at], tuple):
        return errors.BadChain(-1)
    web = args[0]
    for number, deed in enumerate(args[at]):
        web = taken.done(web, deed) if taken.is_deed(web, deed) else None
        if web is None:
            return errors.BadChain(number)
    return None


def unfit_back(args, at):
    """For the rounds of what a deed or a chain makes."""
    web = args[0]
    for deed in (args[1],) if taken.is_deed(web, args[1]) else args[1]:
        web = taken.done(web, deed)
    return None if plainly.is_told_round(web, args[at]) else errors.BadRound(args[at])


def unfit_prices(args, at):
    return None if args[at][0] in ("after", "before", "pass", "turn", "stretch") else errors.NoPrices(args[at])


def unfit_rooms(args, at):
    """For a number of rooms behind a web, or from 1 on."""
    least = len(args[0]) if at > 0 else 1
    return None if is_from(args[at], least) and args[at] <= 6 else errors.BadRooms(args[at])


def unfit_group(args, at):
    n, group = args[:2]
    fits = type(group) is tuple and len(group) <= n and all(is_from(item, 0) and item != 1 for item in group)
    if fits and len(group) == n and group[0] == 0:
        fits = False
    if fits and any(low == 0 != high or low and high % low for low, high in zip(group, group[1:])):
        fits = False
    return None if fits else errors.BadDivisors(group)


def unfit_sign(args, at):
    n, group, sense = args
    if type(sense) is int and sense in (-1, 0, 1) and (sense == 0) == (0 in group) and (n > 1 or sense == -1):
        return None
    return errors.BadSign(sense)


def unfit_paper(args, at):
    fits = right.alike(args[0], args[1], args[at]) and args[at][0] == "alike"
    return None if fits else errors.BadPaper(args[at])


# What cannot be told by the web and one value alone.
OTHER_RULES = {"pair": unfit_pair, "deed": unfit_deed, "chain": unfit_chain, "back": unfit_back,
               "priced": unfit_prices, "rooms": unfit_rooms, "group": unfit_group, "sign": unfit_sign,
               "paper": unfit_paper}
# File, name, parameters, arguments that fit, and for each argument that is checked its place
# and its rule.
LISTED = (
    ("webs", "is_table", "(thing)", (G,), ()),
    ("webs", "is_web", "(thing)", (G,), ()),
    ("webs", "web_fault", "(table)", (((1, 1), (0, 1)),), ((0, "table"),)),
    ("webs", "arrows", "(web)", (G,), ((0, "web"),)),
    ("webs", "turned_web", "(web)", (((0, 2), (1, 0)),), ((0, "web"),)),
    ("webs", "renamed_web", "(web, order)", (G, (1, 0)), ((0, "web"), (1, "order"))),
    ("webs", "power", "(web, length)", (G, 3), ((0, "web"), (1, "length from 0"))),
    ("webs", "web_text", "(web)", (G,), ((0, "web"),)),
    ("walks", "is_walk", "(web, thing)", (G, LAP), ((0, "web"),)),
    ("walks", "is_round", "(web, thing)", (G, LAP), ((0, "web"),)),
    ("walks", "is_told_round", "(web, thing)", (G, LAP), ((0, "web"),)),
    ("walks", "turns", "(web, lap)", (G, LAP), ((0, "web"), (1, "round"))),
    ("walks", "told_form", "(web, lap)", (G, LAP), ((0, "web"), (1, "round"))),
    ("walks", "rounds", "(web, length, *, most=4096)", (G, 5), ((0, "web"), (1, "length"))),
    ("numbers", "walks_many", "(web, i, j, length)", (G, 0, 1, 3),
     ((0, "web"), (1, "room"), (2, "room"), (3, "length from 0"))),
    ("numbers", "closed_many", "(web, length)", (G, 3), ((0, "web"), (1, "length"))),
    ("numbers", "rounds_many", "(web, length)", (G, 3), ((0, "web"), (1, "length"))),
    ("numbers", "bottom_of", "(web)", (G,), ((0, "web"),)),
    ("numbers", "judge_as_many", "(one, other)", (G, LOOPS), ((0, "web"), (1, "web"))),
    ("numbers", "as_many_holds", "(one, other, thing)", (G, LOOPS, ("length", 1)), ((0, "web"), (1, "web"))),
    ("prices", "is_price_row", "(web, thing)", (G, (5, 2, 1)), ((0, "web"),)),
    ("prices", "price", "(web, prices, walk)", (G, (5, 2, 1), LAP), ((0, "web"), (1, "prices"), (2, "walk"))),
    ("prices", "slope", "(web, heights)", (G, (0, 3)), ((0, "web"), (1, "heights"))),
    ("prices", "first_tree", "(web)", (G,), ((0, "web"),)),
    ("prices", "plain_prices", "(web, prices)", (G, (5, 2, 1)), ((0, "web"), (1, "prices"))),
    ("prices", "price_numbers", "(web, prices)", (G, (5, 2, 1)), ((0, "web"), (1, "prices"))),
    ("prices", "step_of", "(web, prices)", (G, (4, 2, 2)), ((0, "web"), (1, "prices"))),
    ("prices", "prices_of", "(web, numbers)", (G, (5, 3)), ((0, "web"), (1, "numbers"))),
    ("prices", "judge_agree", "(web, one, other)", ROWS, ((0, "web"), (1, "prices"), (2, "prices"))),
    ("prices", "agree_holds", "(web, one, other, thing)", ROWS + (ROUND,), ((0, "web"), (1, "prices"), (2, "prices"))),
    ("prices", "judge_modulo", "(web, one, other, m)", ROWS + (7,),
     ((0, "web"), (1, "prices"), (2, "prices"), (3, "m"))),
    ("prices", "modulo_holds", "(web, one, other, m, thing)", ROWS + (7, ROUND),
     ((0, "web"), (1, "prices"), (2, "prices"), (3, "m"))),
    ("prices", "period_of", "(web)", (((0, 2), (1, 0)),), ((0, "web"),)),
    ("rates", "least_rate", "(web, prices, times)", ROWS, ((0, "web"), (1, "prices"), (2, "times"))),
    ("rates", "greatest_rate", "(web, prices, times)", ROWS, ((0, "web"), (1, "prices"), (2, "times"))),
    ("rates", "tight_arrows", "(web, prices, times)", ROWS, ((0, "web"), (1, "prices"), (2, "times"))),
    ("rates", "judge_at_least", "(web, prices, times, number)", ROWS + ((6, 4),),
     ((0, "web"), (1, "prices"), (2, "times"), (3, "number"))),
    ("rates", "at_least_holds", "(web, prices, times, number, thing)", ROWS + ((6, 4), ROUND),
     ((0, "web"), (1, "prices"), (2, "times"), (3, "number"))),
    ("counts", "counts_of", "(web, walk)", (G, LAP), ((0, "web"), (1, "walk"))),
    ("counts", "is_simple", "(web, thing)", (G, LAP[:2]), ((0, "web"),)),
    ("counts", "simple_rounds", "(web)", (G,), ((0, "web"),)),
    ("counts", "judge_counts", "(web, counts)", (G, (2, 1, 1)), ((0, "web"), (1, "counts"))),
    ("counts", "counts_hold", "(web, counts, thing)", (G, (0, 1, 1), ROUND), ((0, "web"), (1, "counts"))),
    ("counts", "counted_many", "(web, counts)", (G, (2, 1, 1)), ((0, "web"), (1, "counts"))),
    ("counts", "told_many", "(web, counts)", (G, (2, 2, 2)), ((0, "web"), (1, "counts"))),
    ("counts", "judge_sum", "(web, counts)", (G, (1, 2, 2)), ((0, "web"), (1, "counts"))),
    ("counts", "sum_holds", "(web, counts, thing)", (G, (0, 1, 1), ("sum", (ROUND[1],))), ((0, "web"), (1, "counts"))),
    ("mixing", "corners", "(web, one, other)", ROWS, ((0, "web"), (1, "prices"), (2, "prices"))),
    ("mixing", "judge_point", "(web, one, other, point)", ROWS + (((8, 2), (3, 4)),),
     ((0, "web"), (1, "prices"), (2, "prices"), (3, "point"))),
    ("mixing", "point_holds", "(web, one, other, point, thing)", ROWS + (((3, 2), (5, 2)), ("mixed", ((ROUND[1], 1),))),
     ((0, "web"), (1, "prices"), (2, "prices"), (3, "point"))),
    ("growth", "judge_growth", "(web, number)", (G, (16, 10)), ((0, "web"), (1, "number"))),
    ("growth", "growth_holds", "(web, number, thing)", (G, (16, 10), ("above", (8, 5))), ((0, "web"), (1, "number"))),
    ("growth", "judge_growths", "(one, other)", (G, LOOPS), ((0, "web"), (1, "web"))),
    ("growth", "growths_hold", "(one, other, thing)", (G, LOOPS, ("less", (2, 1), (2, 1), (1,))),
     ((0, "web"), (1, "web"))),
    ("growth", "growth_floor", "(web, bits)", (G, 3), ((0, "web"), (1, "integer"))),
    ("stretching", "stretched", "(web, times)", (G, (1, 2, 3)), ((0, "web"), (1, "times"))),
    ("stretching", "timed_many", "(web, times, time)", (G, (1, 2, 3), 5), ((0, "web"), (1, "times"), (2, "length"))),
    ("within", "judge_within", "(one, other)", (G, LOOPS), ((0, "web"), (1, "web"), (1, "pair"))),
    ("within", "within_holds", "(one, other, thing)", (((0, 2), (1, 0)), LOOPS, ("within", BOUND)),
     ((0, "web"), (1, "web"), (1, "pair"))),
    ("within", "is_bound", "(one, other, thing)", (((0, 2), (1, 0)), LOOPS, BOUND),
     ((0, "web"), (1, "web"), (1, "pair"))),
    ("within", "spare", "(one, other, length)", (G, LOOPS, 5), ((0, "web"), (1, "web"), (1, "pair"), (2, "length"))),
    ("within", "barring_lengths", "(one, other)", (((0, 2), (1, 0)), LOOPS), ((0, "web"), (1, "web"), (1, "pair"))),
    ("deeds", "is_deed", "(web, thing)", AFTER, ((0, "web"),)),
    ("deeds", "can_be_done", "(web, deed)", AFTER, ((0, "web"),)),
    ("deeds", "done", "(web, deed)", AFTER, ((0, "web"), (1, "deed"))),
    ("deeds", "made", "(web, chain)", CHAIN, ((0, "web"), (1, "chain"))),
    ("carrying", "walks_of", "(web, deed)", AFTER, ((0, "web"), (1, "deed"))),
    ("carrying", "carried", "(web, deed, lap, *, most=4096)", AFTER + (((0, 1, 0), (1, 0, 0)),),
     ((0, "web"), (1, "deed"), (2, "told"))),
    ("carrying", "carried_back", "(web, deed, lap, *, most=4096)", AFTER + (((0, 0, 1), (0, 1, 0), (1, 0, 0)),),
     ((0, "web"), (1, "deed"), (2, "back"))),
    ("carrying", "chain_carried", "(web, chain, lap, *, most=4096)", CHAIN + (((0, 1, 0), (1, 0, 0)),),
     ((0, "web"), (1, "chain"), (2, "told"))),
    ("carrying", "chain_carried_back", "(web, chain, lap, *, most=4096)", CHAIN + (((0, 1, 0), (1, 1, 0), (1, 0, 0)),),
     ((0, "web"), (1, "chain"), (2, "back"))),
    ("carrying", "prices_carried", "(web, deed, prices)", AFTER + ((1, 2, 3, 4),),
     ((0, "web"), (1, "deed"), (2, "prices"), (1, "priced"))),
    ("groups", "divisors_of", "(web)", (((4,),),), ((0, "web"),)),
    ("groups", "sign_of", "(web)", (G,), ((0, "web"),)),
    ("groups", "count_of", "(web, m)", (((4,),), 6), ((0, "web"), (1, "m"))),
    ("groups", "stairs", "(web)", (G,), ((0, "web"),)),
    ("groups", "plain_row", "(web, row)", (((2, 1), (1, 2)), (5, 7)), ((0, "web"), (1, "row"))),
    ("groups", "judge_led", "(web, one, other)", (G, (0, 0), (1, 0)), ((0, "web"), (1, "row"), (2, "row"))),
    ("groups", "led_holds", "(web, one, other, thing)", (G, (0, 0), (1, 0), ("led", (-1, -1))),
     ((0, "web"), (1, "row"), (2, "row"))),
    ("plainwebs", "plain_web", "(n, group, sense)", (3, (2, 6), -1), ((0, "rooms"), (1, "group"), (2, "sign"))),
    ("plainwebs", "is_plain_web", "(thing)", (((2, 1), (2, 2)),), ()),
    ("alike", "are_alike", "(one, other)", (G, LOOPS), ((0, "web"), (1, "web"))),
    ("alike", "judge_alike", "(one, other)", (G, LOOPS), ((0, "web"), (1, "web"))),
    ("alike", "alike_holds", "(one, other, thing)", (G, LOOPS, ALIKE), ((0, "web"), (1, "web"))),
    ("alike", "plain_chain", "(web, n)", (G, 3), ((0, "web"), (1, "rooms"))),
    ("alike", "gone_over", "(one, other, paper, lap, *, most=4096)", (G, LOOPS, ALIKE, ((0, 1, 0), (1, 0, 0))),
     ((0, "web"), (1, "web"), (2, "paper"), (3, "told"))),
    ("groups", "image", "(web, deed, row)", AFTER + ((5, 7),), ((0, "web"), (1, "deed"), (2, "row"))),
)


def function_of(module, name):
    return getattr(importlib.import_module("otherpace." + module), name)


def expected_error(args, checks):
    """The error that the document names first, None if all arguments fit."""
    for at, rule in checks:
        if rule in OTHER_RULES:
            wrong = OTHER_RULES[rule](args, at)
            if wrong is not None:
                return wrong
            continue
        name, fits = RULES[rule]
        if not fits(args[0], args[at]):
            return getattr(errors, name)(args[at])
    return None
