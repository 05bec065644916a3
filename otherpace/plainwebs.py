"""Plain webs: one web for each number of rooms, group and sign."""

from otherpace.errors import BadDivisors, BadRooms, BadSign
from otherpace.kinds import is_integer, is_integer_from, is_row_from
from otherpace.lattices import is_divided
from otherpace.webs import is_web

# The greatest number of rooms for which plain webs are asked for.
MOST_PLAIN = 6


def plain_web(n, group, sense):
    """The plain web of n rooms with these divisors and this sign."""
    if not is_integer_from(n, 1) or n > MOST_PLAIN:
        raise BadRooms(n)
    if not is_group(group, n):
        raise BadDivisors(group)
    if not is_integer(sense) or abs(sense) > 1 or (sense == 0) != (0 in group) or (n == 1 and sense != -1):
        raise BadSign(sense)
    return plain_with(n, group, sense)


def is_group(thing, n):
    """Whether any value is a tuple of divisors that a plain web of n rooms can have."""
    if not isinstance(thing, tuple) or not is_row_from(thing, len(thing), 0) or len(thing) > n:
        return False
    if 1 in thing or (len(thing) == n and thing[0] == 0):
        return False
    return are_divisors(thing)


def are_divisors(row):
    """Whether each one of some integers from 0 on divides the next one."""
    return all([is_divided(behind, ahead) for ahead, behind in zip(row, row[1:])])


def plain_with(n, group, sense):
    """The same as plain_web, for what surely fits, for any number of rooms."""
    items = [1] * (n - len(group)) + list(group)
    if n > 1:
        # The sign of a web with an even number of rooms has the sign of this item.
        items[-1] = items[-1] * (sense if n & 1 == 0 else -sense)
    return plain_by_items(items)


def plain_by_items(items):
    """The plain web with d_1, e_1, .., e_(n - 1)."""
    first = items[0]
    rows = [[first] * len(items)]
    for item in items[1:]:
        rows.append([first if item >= 0 else first - item] * len(items))
    for at, item in enumerate(items):
        # The web's table has one more on the diagonal.
        rows[at][at] += 1 + (item if at > 0 else 0)
    return tuple([tuple(row) for row in rows])


def is_plain_web(thing):
    """Whether any value is a plain web."""
    if not is_web(thing):
        return False
    items = [thing[0][0] - 1] + [row[at] - 1 - row[0] for at, row in enumerate(thing) if at > 0]
    sizes = items[:-1] + [abs(items[-1])]
    if items[0] < 1 or min(sizes) < 0 or not are_divisors(sizes):
        return False
    return thing == plain_by_items(items)
