"""Which papers are right: the document's words once more, to compare with."""

from tests import plainly


def is_pair(thing, kind):
    return type(thing) is tuple and len(thing) == 2 and type(thing[0]) is str and thing[0] == kind


def is_row(thing, many):
    return type(thing) is tuple and len(thing) == many and all(type(item) is int for item in thing)


def as_many(one, other, thing):
    """Only for lengths that are not too great to be counted one after the other."""
    if is_pair(thing, "as many"):
        row = thing[1]
        if type(row) is not tuple or not all(type(item) is int for item in row) or row[-1:] in ((), (0,)):
            return False
        return has_bottom(one, row) and has_bottom(other, row)
    if not is_pair(thing, "length") or type(thing[1]) is not int or not 1 <= thing[1] <= 4000:
        return False
    return told_number(one, thing[1]) != told_number(other, thing[1])


def told_number(web, length):
    return plainly.told_numbers(plainly.closed_numbers(web, length))[-1]


def has_bottom(web, row):
    """Whether det(1 - t A) is the polynomial, at more places than either has powers."""
    rooms = range(len(web))
    for t in range(len(web) + len(row) + 1):
        table = [[int(i == j) - t * web[i][j] for j in rooms] for i in rooms]
        if plainly.determinant(table) != sum(item * t ** at for at, item in enumerate(row)):
            return False
    return True


def agree(web, one, other, m, thing):
    """m is 0 for rows that shall be equal on all rounds."""
    row = [x - y for x, y in zip(one, other)]
    if is_pair(thing, "heights") and is_row(thing[1], len(web)):
        heights = thing[1]
        if heights[0] != 0 or m and not all(height in range(m) for height in heights):
            return False
        return all(is_multiple(x - y, m) for x, y in zip(row, plainly.slope(web, heights)))
    if is_pair(thing, "round") and plainly.is_round(web, thing[1]):
        return not is_multiple(plainly.price(web, row, thing[1]), m)
    return False


def is_multiple(number, m):
    return number == 0 or m != 0 and number % m == 0


def at_least(web, prices, times, number, thing):
    top, bottom = number
    if is_pair(thing, "heights") and is_row(thing[1], len(web)) and thing[1][0] == 0:
        slope = plainly.slope(web, thing[1])
        return all(bottom * worth - top * time >= rise for worth, time, rise in zip(prices, times, slope))
    if is_pair(thing, "round") and plainly.is_round(web, thing[1]):
        return plainly.price(web, prices, thing[1]) * bottom < top * plainly.price(web, times, thing[1])
    return False
