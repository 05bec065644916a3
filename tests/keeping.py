"""What a house keeps, as plainly as can be: changes, promises and their faults."""

import re

from otherpace import errors
from tests import plainly, right, taken
from tests.right import is_row

PRICED = ("after", "before", "pass", "turn", "stretch")
SIZES = {"web": 3, "prices": 4, "drop": 2, "rename": 3, "deed": 3, "arrow": 4, "lift": 3, "add": 3, "promise": 2,
         "release": 2}


def is_name(thing):
    return type(thing) is str and re.fullmatch("[a-z]{1,8}", thing) is not None and not thing.endswith("\n")


def is_change(thing):
    return type(thing) is tuple and thing and type(thing[0]) is str and SIZES.get(thing[0]) == len(thing)


class Keep:
    """The names of webs and of price rows, and the promises."""

    def __init__(self):
        self.webs, self.rows, self.promises = {}, {}, []

    def copy(self):
        other = Keep()
        other.webs, other.rows, other.promises = dict(self.webs), dict(self.rows), list(self.promises)
        return other

    def shown(self):
        return (self.webs, self.rows, tuple(self.promises))

    def is_web(self, thing):
        return type(thing) is str and thing in self.webs

    def is_prices(self, thing):
        return type(thing) is str and thing in self.rows

    def about(self, name):
        return [key for key, (about, _) in self.rows.items() if about == name]

    def in_promise(self, name, kinds=None):
        return any(name in promise[1:] for promise in self.promises if kinds is None or promise[0] in kinds)

    def need(self, fits, error, *carried):
        if not fits:
            raise error(*carried)

    def web(self, name, web):
        self.need(is_name(name), errors.BadName, name)
        self.need(name not in self.rows, errors.NameTaken, name)
        self.need(not self.about(name), errors.InUse, name)
        self.need(plainly.is_web(web), errors.BadWeb, web)
        self.webs[name] = web

    def prices(self, name, web, prices):
        self.need(is_name(name), errors.BadName, name)
        self.need(name not in self.webs, errors.NameTaken, name)
        self.need(self.is_web(web), errors.NoName, web)
        self.need(is_row(prices, len(plainly.arrows(self.webs[web]))), errors.BadPrices, prices)
        if name in self.rows and self.rows[name][0] != web:
            self.need(not self.in_promise(name, ("agree",)), errors.InUse, name)
        self.rows[name] = (web, prices)

    def drop(self, name):
        self.need(self.is_web(name) or self.is_prices(name), errors.NoName, name)
        self.need(not self.about(name) and not self.in_promise(name), errors.InUse, name)
        self.webs.pop(name, None)
        self.rows.pop(name, None)

    def rename(self, name, other):
        self.need(self.is_web(name) or self.is_prices(name), errors.NoName, name)
        self.need(is_name(other), errors.BadName, other)
        self.need(other not in self.webs and other not in self.rows, errors.NameTaken, other)

        def new(part):
            return other if type(part) is str and part == name else part
        self.webs = {new(key): web for key, web in self.webs.items()}
        self.rows = {new(key): (new(about), row) for key, (about, row) in self.rows.items()}
        self.promises = [(promise[0],) + tuple(map(new, promise[1:])) for promise in self.promises]

    def deed(self, name, deed):
        self.need(self.is_web(name), errors.NoName, name)
        web = self.webs[name]
        self.need(taken.is_deed(web, deed), errors.BadDeed, deed)
        result = taken.done(web, deed)
        self.need(result is not None, errors.NoDeed, deed)
        self.need(not self.about(name) or deed[0] in PRICED, errors.NoPrices, deed)
        for key in self.about(name):
            self.rows[key] = (name, led_prices(web, deed, self.rows[key][1], result))
        self.webs[name] = result

    def arrow(self, name, i, j):
        self.need(self.is_web(name), errors.NoName, name)
        self.need(not self.about(name), errors.InUse, name)
        for room in (i, j):
            self.need(type(room) is int and room in range(len(self.webs[name])), errors.BadRoom, room)
        table = [list(row) for row in self.webs[name]]
        table[i][j] += 1
        self.webs[name] = tuple(map(tuple, table))

    def lift(self, name, heights):
        self.need(self.is_prices(name), errors.NoName, name)
        web, row = self.rows[name]
        self.need(is_row(heights, len(self.webs[web])), errors.BadHeights, heights)
        self.rows[name] = (web, plus(row, plainly.slope(self.webs[web], heights)))

    def add(self, name, other):
        self.need(self.is_prices(name), errors.NoName, name)
        self.need(self.is_prices(other), errors.NoName, other)
        self.need(self.rows[name][0] == self.rows[other][0], errors.OtherWeb)
        self.rows[name] = (self.rows[name][0], plus(self.rows[name][1], self.rows[other][1]))

    def promise(self, promise):
        self.need(self.is_promise(promise) and promise not in self.promises, errors.BadPromise, promise)
        self.promises.append(promise)

    def release(self, promise):
        self.need(self.is_promise(promise) and promise in self.promises, errors.NoPromise, promise)
        self.promises.remove(promise)

    def change(self, change):
        """Make a change on a copy, which is returned."""
        other = self.copy()
        getattr(other, change[0])(*change[1:])
        return other

    def is_promise(self, thing):
        if type(thing) is not tuple or len(thing) < 3 or type(thing[0]) is not str:
            return False
        kind, rest = thing[0], thing[1:]
        if kind == "agree" and len(rest) == 3:
            if not self.is_prices(rest[0]) or not self.is_prices(rest[1]):
                return False
            return self.rows[rest[0]][0] == self.rows[rest[1]][0] and type(rest[2]) is int and rest[2] >= 0
        if kind == "least" and len(rest) == 2:
            return self.is_prices(rest[0]) and right.is_number(rest[1])
        if kind == "period" and len(rest) == 2:
            return self.is_web(rest[0]) and type(rest[1]) is int and rest[1] >= 1
        return kind in ("slower", "within", "alike") and len(rest) == 2 and all(map(self.is_web, rest))

    def fault(self, promise, thing):
        """Whether any value is a fault of a promise."""
        kind, rest = promise[0], promise[1:]
        if kind in ("agree", "least"):
            web = self.webs[self.rows[rest[0]][0]]
            row = self.rows[rest[0]][1]
            if not right.is_pair(thing, "round"):
                return False
            if kind == "agree":
                return right.agree(web, row, self.rows[rest[1]][1], rest[2], thing)
            return right.at_least(web, row, (1,) * len(row), rest[1], thing)
        if kind == "period":
            return right.is_pair(thing, "round") and plainly.is_round(self.webs[rest[0]], thing[1]) and (
                len(thing[1]) % rest[1] != 0)
        one, other = (self.webs[name] for name in rest)
        if kind == "alike":
            return right.alike(one, other, thing) and thing[0] != "alike"
        if kind == "within" and plainly.period(other) != 1:
            return right.is_pair(thing, "period") and type(thing[1]) is int and thing[1] == plainly.period(other)
        if plainly.growth(other) <= plainly.growth(one) + 1e-6:
            return right.growths(one, other, thing) and thing[0] in ("more", "equal")
        return kind == "within" and right.is_pair(thing, "length") and right.within(one, other, thing)

    def is_kept(self, promise):
        kind, rest = promise[0], promise[1:]
        if kind in ("agree", "least", "period"):
            web = self.webs[rest[0]] if kind == "period" else self.webs[self.rows[rest[0]][0]]
            if kind == "period":
                web = tuple(tuple(min(item, 1) for item in row) for row in web)
            # Each round is made up of simple ones.
            return not any(self.fault(promise, ("round", lap)) for lap in plainly.simple_rounds(web))
        one, other = (self.webs[name] for name in rest)
        if kind == "alike":
            return right.group(one) == right.group(other)
        if kind == "within" and plainly.period(other) != 1:
            return False
        if plainly.growth(other) <= plainly.growth(one) + 1e-6:
            return False
        told = [plainly.told_numbers(plainly.closed_numbers(web, 60)) for web in (one, other)]
        return kind == "slower" or all(less <= more for less, more in zip(*told))

    def unkept(self):
        return next((promise for promise in self.promises if not self.is_kept(promise)), None)

    def text(self):
        lines = ["house"]
        for name, web in sorted(self.webs.items()):
            lines += ["is " + name, "web %d" % len(web)] + [" ".join(map(str, row)) for row in web]
        for name, (web, row) in sorted(self.rows.items()):
            lines.append(" ".join(["prices", name, web] + list(map(str, row))))
        for promise in self.promises:
            parts = promise[:2] + promise[2] if promise[0] == "least" else promise
            lines.append(" ".join(map(str, parts)))
        return "\n".join(lines)


def plus(one, other):
    return tuple(x + y for x, y in zip(one, other))


def led_prices(web, deed, row, result):
    """The prices of the walks for which the arrows stand; in "stretch" the last new arrow has 0."""
    if deed[0] != "stretch":
        return tuple(plainly.price(web, row, walk) for walk in taken.standing(web, deed))
    named = {(len(web), deed[2], 0): 0}
    for walk, price in zip(taken.standing(web, deed), row):
        named[walk[0]] = price
    return tuple(named[arrow] for arrow in plainly.arrows(result))
