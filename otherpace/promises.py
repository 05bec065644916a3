"""Promises of a house: which can be given, which are kept, and what shows that one is not.

What a house keeps is a triple of a dict from names to webs, a dict from names to pairs of a web's
name and a price row of it, and the tuple of the promises. It is never changed, only made anew.
"""

from otherpace.alike import alike_holds, are_alike, judge_alike
from otherpace.growing import grows_less
from otherpace.growth import growths_hold, judge_growths
from otherpace.kinds import is_integer, is_integer_from, is_number, is_paper
from otherpace.prices import is_multiple, judge_row, row_holds
from otherpace.pricing import period_of_web, price_of, row_less
from otherpace.walks import is_round_of
from otherpace.webs import arrows_many
from otherpace.weighing import judge_weights, weights_for
from otherpace.within import is_barring, judge_pair

KEPT = ("kept",)


def is_key(names, thing):
    """Whether any value is a name of a dict."""
    return isinstance(thing, str) and thing in names


def is_promise_in(kept, thing):
    """Whether any value is a promise whose names stand for what is asked."""
    webs, rows, _ = kept
    if is_paper(thing, "agree", 4):
        if not is_key(rows, thing[1]) or not is_key(rows, thing[2]):
            return False
        return rows[thing[1]][0] == rows[thing[2]][0] and is_integer_from(thing[3], 0)
    if is_paper(thing, "least", 3):
        return is_key(rows, thing[1]) and is_number(thing[2])
    if is_paper(thing, "period", 3):
        return is_key(webs, thing[1]) and is_integer_from(thing[2], 1)
    if not any([is_paper(thing, kind, 3) for kind in ("slower", "within", "alike")]):
        return False
    return is_key(webs, thing[1]) and is_key(webs, thing[2])


def names_in(promise):
    """The tuple of the names in a promise."""
    return tuple([part for part in promise[1:] if isinstance(part, str)])


def webs_in(kept, promise):
    """The two webs of a promise about webs."""
    return (kept[0][promise[1]], kept[0][promise[2]])


def judged_in(kept, promise):
    """("kept",), or a fault that shows that a promise whose names fit is not kept."""
    if promise[0] in ("agree", "least", "period"):
        return judged_rounds(kept, promise)
    one, other = webs_in(kept, promise)
    if promise[0] == "alike":
        return KEPT if are_alike(one, other) else judge_alike(one, other)
    if promise[0] == "within" and period_of_web(other) != 1:
        return ("period", period_of_web(other))
    if not grows_less(one, other):
        return judge_growths(one, other)
    paper = judge_pair(one, other) if promise[0] == "within" else KEPT
    return paper if paper[0] == "length" else KEPT


def judged_rounds(kept, promise):
    """The same for a promise about all rounds of a web."""
    web, row, m = weighed(kept, promise)
    if promise[0] == "period":
        # One arrow of those between two rooms is enough, and there may be far too many.
        web = tuple([tuple([min(item, 1) for item in line]) for line in web])
        row = (1,) * arrows_many(web)
    paper = judge_weights(web, row) if promise[0] == "least" else judge_row(web, row, m)
    return KEPT if paper[0] == "heights" else paper


def weighed(kept, promise):
    """The web of a promise about all rounds, a row of it and an integer: the price of each round in
    this row is a multiple of the integer, or from 0 on for "least". No row for "period"."""
    webs, rows, _ = kept
    if promise[0] == "period":
        return (webs[promise[1]], (), promise[2])
    name, row = rows[promise[1]]
    if promise[0] == "agree":
        return (webs[name], row_less(row, rows[promise[2]][1]), promise[3])
    return (webs[name], weights_for(row, (1,) * len(row), promise[2]), 0)


def fault_holds_in(kept, promise, thing):
    """Whether any value is a fault of a promise whose names fit."""
    if promise[0] in ("agree", "least", "period"):
        return round_holds(kept, promise, thing)
    one, other = webs_in(kept, promise)
    if promise[0] == "alike":
        return not is_paper(thing, "alike", 3) and alike_holds(one, other, thing)
    if promise[0] == "within" and period_of_web(other) != 1:
        return is_paper(thing, "period", 2) and is_integer(thing[1]) and thing[1] == period_of_web(other)
    if not grows_less(one, other):
        return growths_hold(one, other, thing)
    return promise[0] == "within" and is_paper(thing, "length", 2) and is_barring(one, other, thing[1])


def round_holds(kept, promise, thing):
    """The same for a promise about all rounds of a web."""
    web, row, m = weighed(kept, promise)
    if not is_paper(thing, "round", 2) or not is_round_of(web, thing[1]):
        return False
    if promise[0] == "period":
        return not is_multiple(len(thing[1]), m)
    if promise[0] == "least":
        return price_of(web, row, thing[1]) < 0
    return row_holds(web, row, m, thing)


def first_unkept(kept):
    """The pair of the first promise that is not kept and a fault of it, () if all are kept."""
    for promise in kept[2]:
        fault = judged_in(kept, promise)
        if fault != KEPT:
            return (promise, fault)
    return ()
