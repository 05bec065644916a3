"""Webs to test with, and values of all kinds that are wrong in one place."""

import random

from otherpace.console import Console
from otherpace.errors import BadWeb, TooManyRooms
from otherpace.house import House
from tests import plainly

G = ((1, 1), (1, 0))
LOOPS = ((2,),)
TWO_STEPS = ((0, 2), (1, 0))
LONG_RING = ((0, 1, 0, 0, 0), (0, 0, 1, 0, 0), (0, 0, 0, 1, 0), (0, 0, 0, 0, 1), (2, 0, 0, 0, 0))
HUGE = ((10 ** 40 - 1, 0, 1), (3, 0, 10 ** 39), (0, 7, 0))
FULL = ((6,) * 5,) * 5
EIGHT = tuple(tuple(int((j - i) in (1, -7)) + (i == j == 3) for j in range(8)) for i in range(8))
WEBS = (G, LOOPS, ((7,),), TWO_STEPS, LONG_RING, FULL, EIGHT, HUGE,
        ((1, 1, 0), (0, 0, 1), (1, 1, 0)), ((0, 1, 1), (2, 0, 0), (1, 0, 1)))
NO_WEBS = (((0,),), ((1,),), ((0, 1), (1, 0)), ((1, 1), (0, 1)), ((2, 0), (0, 2)), ((0, 0), (0, 0)),
           ((0, 1, 0), (0, 0, 1), (1, 0, 0)), ((2, 1), (0, 0)), ((0, 0), (1, 3)))


HOUSE = House.read("house\nis g\nweb 2\n1 1\n1 0\nprices p g 5 2 1\nleast p 3 2")
CONSOLE = Console(HOUSE)


def nest(depth):
    """A value that is nested so deep, by turns in a tuple, a list and a dict."""
    value = 1
    for level in range(depth):
        value = ((value,), [value], {"a": value})[level % 3]
    return value


ANY_VALUES = (
    None, True, False, 0, 1, -1, 2, 8, 10 ** 39, -(10 ** 39), "", "a", "web 1\n2", "\n", " ~" * 900,
    (), [], {}, (0,), (1,), ((),), ((), ()), [(2,)], ([2],), ((2,), None), {"a": 1}, {(0, 0, 0): 1},
    ((True,),), ("2",), (("2",),), ((-2,),), ((2, 0),), ((2,), (2,)), "((2,),)",
    (None,), (((2,),),), tuple(range(2999)), [0] * 2999, nest(12), (nest(11), nest(11)),
    ((1,) * 9,) * 9, ((1, 1), (1, True)), ((1, 1), [1, 0]), [(1, 1), (1, 0)], ((1, 1), (1, 0), (0, 0)),
    ((1, 1), (1,)), ((1, 1), (1, 0), ()), ((1, 1), "10"), ((1, 1), {0: 1, 1: 0}),
    BadWeb(3), TooManyRooms(), (BadWeb(3),), ((0, 0, 0),), (0, 0, 0), ((0, 0),), ((0, 0, 0, 0),),
    HOUSE, CONSOLE, House(), (HOUSE,), [HOUSE, CONSOLE], ((HOUSE, 1), (1, CONSOLE)), (HOUSE, HOUSE, HOUSE),
)
REPLACEMENTS = (None, True, False, -1, 0, 1, 9, 10 ** 39, "1", "", (), (0,), [], [1], {}, ((1,),), BadWeb(1), HOUSE,
                CONSOLE)


def changed_once(value):
    """All values that differ from a tuple of tuples in one place: a part replaced, left out,
    repeated, exchanged with the next one, or the tuple made a list."""
    if not isinstance(value, tuple):
        near = [value + 1, value - 1, -value] if plainly.is_integer(value) else []
        return list(REPLACEMENTS) + near + ([bool(value)] if value in (0, 1) else [])
    found = [list(value), value[::-1]]
    for at, part in enumerate(value):
        before, behind = value[:at], value[at + 1:]
        found.append(before + behind)
        found.append(before + (part, part) + behind)
        if behind:
            found.append(before + (behind[0], part) + behind[1:])
        found.extend(before + (other,) + behind for other in changed_once(part))
        found.extend(before + (other,) + behind for other in REPLACEMENTS)
    return found


def random_table(source, rooms, item):
    """A table of arrows with so many rooms and items up to item, often with zeros."""
    return tuple(tuple(source.choice((0, 0, source.randint(0, item))) for _ in range(rooms)) for _ in range(rooms))


def random_web(source, rooms, item, most_arrows=60):
    """A web with so many rooms, items up to item and not too many arrows."""
    while True:
        web = random_table(source, rooms, item)
        if sum(map(sum, web)) <= most_arrows and plainly.is_web(web):
            return web


def random_webs(seed, many, rooms=5, item=3, most_arrows=60):
    """So many webs with up to so many rooms."""
    source = random.Random(seed)
    return [random_web(source, source.randint(1, rooms), source.randint(2, item), most_arrows) for _ in range(many)]


def random_row(source, web, low, high):
    """An integer for each arrow."""
    return tuple(source.randint(low, high) for _ in plainly.arrows(web))


def random_walk(source, web, length):
    walk = []
    room = source.randrange(len(web))
    for _ in range(length):
        walk.append(source.choice([arrow for arrow in plainly.arrows(web) if arrow[0] == room]))
        room = walk[-1][1]
    return tuple(walk)


def random_round(source, web, length):
    """A round of at most this length: the walk up to where it last is in its first room."""
    walk = random_walk(source, web, length)
    ends = [at + 1 for at, arrow in enumerate(walk) if arrow[1] == walk[0][0]]
    return walk[:ends[-1]] if ends else random_round(source, web, length)


def random_tables(seed, many, rooms=5, item=3):
    """So many tables of arrows, some of them webs."""
    source = random.Random(seed)
    return [random_table(source, source.randint(1, rooms), item) for _ in range(many)]
