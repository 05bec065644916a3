"""Which papers are right: the document's words once more, to compare with."""

import itertools
import math
from fractions import Fraction

from tests import plainly, taken


def is_pair(thing, kind):
    return type(thing) is tuple and len(thing) == 2 and type(thing[0]) is str and thing[0] == kind


def is_row(thing, many):
    return type(thing) is tuple and len(thing) == many and all(type(item) is int for item in thing)


def as_many(one, other, thing):
    """Only for lengths that are not too great to be counted one after the other."""
    if is_pair(thing, "as many"):
        row = thing[1]
        if type(row) is not tuple or not all(type(item) is int for item in row) or row[-1:] in ((), (0,)):
            return False
        return has_bottom(one, row) and has_bottom(other, row)
    if not is_pair(thing, "length") or type(thing[1]) is not int or not 1 <= thing[1] <= 4000:
        return False
    return told_number(one, thing[1]) != told_number(other, thing[1])


def told_number(web, length):
    return plainly.told_numbers(plainly.closed_numbers(web, length))[-1]


def has_bottom(web, row):
    """Whether det(1 - t A) is the polynomial, at more places than either has powers."""
    rooms = range(len(web))
    for t in range(len(web) + len(row) + 1):
        table = [[int(i == j) - t * web[i][j] for j in rooms] for i in rooms]
        if plainly.determinant(table) != sum(item * t ** at for at, item in enumerate(row)):
            return False
    return True


def agree(web, one, other, m, thing):
    """m is 0 for rows that shall be equal on all rounds."""
    row = [x - y for x, y in zip(one, other)]
    if is_pair(thing, "heights") and is_row(thing[1], len(web)):
        heights = thing[1]
        if heights[0] != 0 or m and not all(height in range(m) for height in heights):
            return False
        return all(is_multiple(x - y, m) for x, y in zip(row, plainly.slope(web, heights)))
    if is_pair(thing, "round") and plainly.is_round(web, thing[1]):
        return not is_multiple(plainly.price(web, row, thing[1]), m)
    return False


def is_multiple(number, m):
    return number == 0 or m != 0 and number % m == 0


def at_least(web, prices, times, number, thing):
    top, bottom = number
    if is_pair(thing, "heights") and is_row(thing[1], len(web)) and thing[1][0] == 0:
        slope = plainly.slope(web, thing[1])
        return all(bottom * worth - top * time >= rise for worth, time, rise in zip(prices, times, slope))
    if is_pair(thing, "round") and plainly.is_round(web, thing[1]):
        return plainly.price(web, prices, thing[1]) * bottom < top * plainly.price(web, times, thing[1])
    return False


def is_room(web, thing):
    return type(thing) is int and thing in range(len(web))


def sums_at(web, counts, room):
    """How many counted arrows begin in a room, and how many end in it."""
    pairs = list(zip(plainly.arrows(web), counts))
    return tuple(sum(many for arrow, many in pairs if arrow[end] == room) for end in (0, 1))


def uneven(web, counts, thing):
    if not is_pair(thing, "uneven") or not is_room(web, thing[1]):
        return False
    begun, ended = sums_at(web, counts, thing[1])
    return begun != ended


def counted(web, steps):
    return tuple(sum(step == arrow for step in steps) for arrow in plainly.arrows(web))


def counts(web, row, thing):
    if type(thing) is tuple and len(thing) == 1 and type(thing[0]) is str and thing[0] == "nought":
        return not any(row)
    if is_pair(thing, "parts"):
        rooms = thing[1]
        if type(rooms) is not tuple or not all(is_room(web, room) for room in rooms):
            return False
        used = [arrow for arrow, many in zip(plainly.arrows(web), row) if many]
        inside = [arrow[0] in rooms for arrow in used]
        across = [arrow for arrow in used if (arrow[0] in rooms) != (arrow[1] in rooms)]
        return list(rooms) == sorted(set(rooms)) and any(inside) and not all(inside) and not across
    if is_pair(thing, "round"):
        return plainly.is_round(web, thing[1]) and counted(web, thing[1]) == row
    return uneven(web, row, thing)


def is_simple_told(web, thing):
    return plainly.is_told_round(web, thing) and len({arrow[0] for arrow in thing}) == len(thing)


def made_up(web, row, thing):
    if is_pair(thing, "sum"):
        if type(thing[1]) is not tuple or not all(is_simple_told(web, lap) for lap in thing[1]):
            return False
        return list(thing[1]) == sorted(thing[1]) and counted(web, [arrow for lap in thing[1] for arrow in lap]) == row
    return uneven(web, row, thing)


def point(web, one, other, place, thing):
    x, y = Fraction(*place[0]), Fraction(*place[1])
    if is_pair(thing, "mixed"):
        parts = thing[1]
        if type(parts) is not tuple or not parts:
            return False
        for part in parts:
            if type(part) is not tuple or len(part) != 2 or not is_simple_told(web, part[0]):
                return False
            if type(part[1]) is not int or part[1] < 1:
                return False
        length = sum(times * len(lap) for lap, times in parts)
        totals = [sum(times * plainly.price(web, row, lap) for lap, times in parts) for row in (one, other)]
        return totals == [x * length, y * length]
    if type(thing) is not tuple or len(thing) != 5 or type(thing[0]) is not str or thing[0] != "outside":
        return False
    _, a, b, number, heights = thing
    if type(a) is not int or type(b) is not int or not is_number(number) or not Fraction(*number) > a * x + b * y:
        return False
    row = tuple(a * worth + b * other_worth for worth, other_worth in zip(one, other))
    return at_least(web, row, (1,) * len(row), number, ("heights", heights))


def is_number(thing):
    return is_row(thing, 2) and thing[1] >= 1


def led(web, row):
    return [sum(item * worth for item, worth in zip(line, row)) for line in web]


def signs(web, number, row):
    """None if this is no row of integers from 1 on, otherwise the set of the signs of the growth
    that it shows less the number, room by room."""
    if not is_row(row, len(web)) or min(row) < 1:
        return None
    pairs = [(Fraction(after, before), Fraction(*number)) for after, before in zip(led(web, row), row)]
    return {(x > y) - (x < y) for x, y in pairs}


def growth(web, number, thing):
    kinds = {"below": ({-1}, {-1, 0}), "above": ({1}, {0, 1}), "equal": ({0},)}
    for kind, shown in kinds.items():
        if is_pair(thing, kind):
            return signs(web, number, thing[1]) in shown
    return False


def growths(one, other, thing):
    if type(thing) is not tuple or not thing or type(thing[0]) is not str:
        return False
    if thing[0] in ("less", "more") and len(thing) == 4 and is_number(thing[1]):
        first, second = (signs(web, thing[1], row) for web, row in zip((one, other), thing[2:]))
        if first is None or second is None:
            return False
        if thing[0] == "more":
            first, second = second, first
        return first <= {-1, 0} and second <= {0, 1} and (first, second) != ({0}, {0})
    if thing[0] == "equal" and len(thing) == 2:
        table = thing[1]
        if type(table) is not tuple or len(table) != len(one):
            return False
        if not all(is_row(row, len(other)) and min(row) >= 0 for row in table) or not any(map(any, table)):
            return False
        left = [[sum(one[i][j] * table[j][k] for j in range(len(one))) for k in range(len(other))]
                for i in range(len(one))]
        right = [[sum(table[i][j] * other[j][k] for j in range(len(other))) for k in range(len(other))]
                 for i in range(len(one))]
        return left == right
    return False


def bound(one, other, thing):
    if type(thing) is not tuple or len(thing) != 8:
        return False
    length, above, row_above, below, row_below, most, row_most, exponent = thing
    if type(length) is not int or type(exponent) is not int or not 1 <= exponent <= 40 or not all(
            map(is_number, (above, below, most))):
        return False
    for web, number, row, allowed in ((one, above, row_above, {-1, 0}), (other, below, row_below, {0, 1}),
                                      (other, most, row_most, {-1, 0})):
        shown = signs(web, number, row)
        if shown is None or not shown <= allowed:
            return False
    a, b, c = Fraction(*above), Fraction(*below), Fraction(*most)
    if a > b or not all(map(all, plainly.power(other, exponent))) or not exponent <= length <= 4000:
        return False
    if (length + 2) * c > length * b ** 2:
        return False
    return all(2 * len(one) * a ** K <= b ** (K - exponent)
               and K ** 2 * len(other) ** 2 * c ** K <= b ** (2 * (K - exponent)) for K in (length, length + 1))


def within(one, other, thing):
    """Only for lengths that are not too great to be counted one after the other."""
    if is_pair(thing, "within") and bound(one, other, thing[1]):
        told = [plainly.told_numbers(plainly.closed_numbers(web, thing[1][0] - 1)) for web in (one, other)]
        return all(less <= more for less, more in zip(*told))
    if not is_pair(thing, "length") or type(thing[1]) is not int or not 1 <= thing[1] <= 4000:
        return False
    return told_number(one, thing[1]) > told_number(other, thing[1])


def led_together(web, one, other, thing):
    rooms = range(len(web))
    less = [[int(i == j) - web[i][j] for j in rooms] for i in rooms]
    change = [y - x for x, y in zip(one, other)]
    if is_pair(thing, "led") and is_row(thing[1], len(web)):
        return [sum(thing[1][i] * less[i][j] for i in rooms) for j in rooms] == change
    if type(thing) is not tuple or len(thing) != 3 or type(thing[0]) is not str or thing[0] != "apart":
        return False
    _, m, row = thing
    if type(m) is not int or m < 0 or not is_row(row, len(web)):
        return False
    return all(is_multiple(item, m) for item in led(less, row)) and not is_multiple(led([change], row)[0], m)


def less_table(web):
    """The table 1 - A."""
    return [[int(i == j) - item for j, item in enumerate(row)] for i, row in enumerate(web)]


def divisors(web):
    """By the greatest common divisors of all determinants of so many rows and columns."""
    table = less_table(web)
    found = [1]
    for size in range(1, len(web) + 1):
        choices = list(itertools.combinations(range(len(web)), size))
        found.append(math.gcd(*[plainly.determinant([[table[i][j] for j in columns] for i in rows])
                                for rows in choices for columns in choices]))
    quotients = [high // low if high else 0 for low, high in zip(found, found[1:])]
    return tuple(item for item in quotients if item != 1)


def group(web):
    """The divisors and the sign."""
    worth = plainly.determinant(less_table(web))
    return divisors(web), (worth > 0) - (worth < 0)


def plain_web(n, group_divisors, sense):
    """Row by row as [8.3] tells."""
    d = [1] * (n - len(group_divisors)) + list(group_divisors)
    if n == 1:
        return ((d[0] + 1,),)
    e = d[1:-1] + [d[-1] * sense * (-1) ** n]
    table = [[d[0]] * n]
    for i in range(1, n):
        h = d[0] if e[i - 1] >= 0 else d[0] - e[i - 1]
        table.append([h + e[i - 1] if j == i else h for j in range(n)])
    return tuple(tuple(item + (i == j) for j, item in enumerate(row)) for i, row in enumerate(table))


def chain_made(web, chain):
    """What a chain makes of a web, None if it is no chain that can be done."""
    if type(chain) is not tuple:
        return None
    for deed in chain:
        web = taken.by_table(web, deed) if taken.is_deed(web, deed) else None
        if web is None:
            return None
    return web


def alike(one, other, thing):
    if type(thing) is not tuple or len(thing) not in (3, 4) or type(thing[0]) is not str:
        return False
    if thing[0] == "alike" and len(thing) == 3:
        made = chain_made(one, thing[1])
        return made is not None and made == chain_made(other, thing[2])
    if not all(type(item) is int for item in thing[1:]):
        return False
    groups = (group(one), group(other))
    if thing[0] == "sign" and len(thing) == 3:
        return thing[1] != thing[2] and thing[1:] == tuple(sign for _, sign in groups)
    if thing[0] == "count" and len(thing) == 4 and thing[1] >= 2:
        counts = tuple(math.prod(math.gcd(thing[1], divisor) for divisor in row) for row, _ in groups)
        return thing[2] != thing[3] and thing[2:] == counts
    return False
