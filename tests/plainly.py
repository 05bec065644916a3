"""The document's words once more, as plainly as can be and however slowly, to compare with."""

import functools
import itertools
import math
import re
from fractions import Fraction


def is_integer(thing):
    return type(thing) is int


def is_table(thing):
    if type(thing) is not tuple or len(thing) not in range(1, 9):
        return False
    rows_fit = all(type(row) is tuple and len(row) == len(thing) for row in thing)
    return rows_fit and all(is_integer(item) and item >= 0 for row in thing for item in row)


def product(one, other):
    rooms = range(len(one))
    return tuple(tuple(sum(one[i][m] * other[m][j] for m in rooms) for j in rooms) for i in rooms)


def power(table, exponent):
    result = tuple(tuple(int(i == j) for j in range(len(table))) for i in range(len(table)))
    for _ in range(exponent):
        result = product(result, table)
    return result


def web_fault(table):
    """By the powers from 1 to the number of rooms: a walk that is longer visits a room twice."""
    rooms = range(len(table))
    plain = tuple(tuple(min(item, 1) for item in row) for row in table)
    powers = [power(plain, exponent) for exponent in range(1, len(table) + 1)]
    for i, j in itertools.product(rooms, rooms):
        if not any(table_power[i][j] for table_power in powers):
            return ("apart", i, j)
    return None if any(sum(row) >= 2 for row in table) else ("ring",)


def is_web(thing):
    return is_table(thing) and web_fault(thing) is None


def web_text_fault(text):
    """The line that web_of tells, None for the text of a web."""
    if not isinstance(text, str):
        return 0
    lines = text.split("\n")
    if not re.fullmatch("web [1-8]", lines[0]):
        return 1
    rooms = int(lines[0][4:])
    row = re.compile(r"(0|[1-9][0-9]*)( (0|[1-9][0-9]*)){%d}" % (rooms - 1), re.ASCII)
    for number, line in enumerate(lines[1:], 2):
        if number > rooms + 1 or not row.fullmatch(line):
            return number
    if len(lines) < rooms + 1:
        return len(lines) + 1
    table = tuple(tuple(int(word) for word in line.split()) for line in lines[1:])
    return None if is_web(table) else len(lines) + 1


def arrows(web):
    rooms = range(len(web))
    return [(i, j, k) for i in rooms for j in rooms for k in range(web[i][j])]


def is_walk(web, thing):
    if type(thing) is not tuple or not thing:
        return False
    for arrow in thing:
        if type(arrow) is not tuple or len(arrow) != 3 or not all(map(is_integer, arrow)):
            return False
        i, j, k = arrow
        if i not in range(len(web)) or j not in range(len(web)) or k not in range(web[i][j]):
            return False
    return all(thing[at][1] == thing[at + 1][0] for at in range(len(thing) - 1))


def is_round(web, thing):
    return is_walk(web, thing) and thing[0][0] == thing[-1][1]


def turns(lap):
    return tuple(sorted({lap[at:] + lap[:at] for at in range(len(lap))}))


def is_plain(lap):
    return all(lap[:size] * (len(lap) // size) != lap for size in range(1, len(lap)) if len(lap) % size == 0)


def is_told_round(web, thing):
    return is_round(web, thing) and is_plain(thing) and turns(thing)[0] == thing


def told_form(lap):
    for size in range(1, len(lap) + 1):
        if lap[:size] * (len(lap) // size) == lap:
            return (turns(lap[:size])[0], len(lap) // size)


def rounds(web, length):
    """Out of all tuples of so many arrows."""
    tuples = itertools.product(arrows(web), repeat=length)
    return tuple(lap for lap in tuples if is_told_round(web, lap))


def walks(web, length):
    """All walks with this length, ascending."""
    found = [(arrow,) for arrow in arrows(web)]
    for _ in range(length - 1):
        found = [walk + (arrow,) for walk in found for arrow in arrows(web) if walk[-1][1] == arrow[0]]
    return found


def closed_numbers(web, most):
    """The closed numbers of the lengths from 1 to most."""
    found = []
    table = power(web, 0)
    for _ in range(most):
        table = product(table, web)
        found.append(sum(table[i][i] for i in range(len(web))))
    return found


def told_numbers(closed):
    """The numbers of told rounds of the lengths from 1 on, by their closed numbers: each round is
    a turn of just one told round that is repeated."""
    told = []
    for length, many in enumerate(closed, 1):
        repeated = sum(size * told[size - 1] for size in range(1, length) if length % size == 0)
        told.append((many - repeated) // length)
    return told


def determinant(table):
    """By C. Gauss, with fractions."""
    rows = [[Fraction(item) for item in row] for row in table]
    result = Fraction(1)
    for at in range(len(rows)):
        pivot = next((row for row in range(at, len(rows)) if rows[row][at]), None)
        if pivot is None:
            return 0
        if pivot != at:
            rows[at], rows[pivot] = rows[pivot], rows[at]
            result = -result
        result *= rows[at][at]
        for row in range(at + 1, len(rows)):
            times = rows[row][at] / rows[at][at]
            rows[row] = [x - times * y for x, y in zip(rows[row], rows[at])]
    return int(result)


def simple_rounds(web):
    """All told rounds in which no room occurs twice, ascending."""
    found = []
    begun = [(arrow,) for arrow in arrows(web)]
    while begun:
        found.extend(walk for walk in begun if is_told_round(web, walk))
        begun = [walk + (arrow,) for walk in begun for arrow in arrows(web)
                 if walk[-1][1] == arrow[0] and arrow[0] not in [step[0] for step in walk]]
    return tuple(sorted(found))


def price(web, prices, walk):
    return sum(prices[arrows(web).index(arrow)] for arrow in walk)


def slope(web, heights):
    return tuple(heights[j] - heights[i] for i, j, _ in arrows(web))


def period(web):
    """By the closed numbers of more lengths than simple rounds can have."""
    closed = closed_numbers(web, 2 * len(web))
    return math.gcd(*[length for length, many in enumerate(closed, 1) if many])


@functools.lru_cache
def growth(web):
    """Nearly the growth, as a float."""
    row = [1.0] * len(web)
    for _ in range(1000):
        # With one loop more for each room there is no period in the way.
        led = [worth + sum(item * other for item, other in zip(line, row)) for worth, line in zip(row, web)]
        row = [worth / max(led) for worth in led]
    return sum(web[0][j] * row[j] for j in range(len(web))) / row[0]
