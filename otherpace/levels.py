"""The first half of a way to a plain web: all items of the surplus above 0, then all items of its
row 0 equal to the greatest integer that divides all items."""

from math import gcd

from otherpace.ratios import common_divisor


def pass_rooms(way):
    """Pass each room without an arrow from it to itself, as long as there is one beside others."""
    rooms = looseless(way.table)
    while rooms:
        # Few new arrows come in place of those of this room.
        weights = [(sum(way.table[room]) * sum([row[room] for row in way.table]), room) for room in rooms]
        way.go(("pass", min(weights)[1]))
        rooms = looseless(way.table)


def looseless(web):
    """The list of the rooms without an arrow from them to themselves."""
    return [room for room in range(len(web)) if web[room][room] == 0]


def fill(way):
    """Bring all items of the surplus, none of which is below 0, above 0."""
    step = filling_step(way)
    while step:
        way.add_row(step[0], step[1], 1)
        step = filling_step(way)


def filling_step(way):
    """The pair of a row with zeros and of another row that fills most of them, () if there are no
    zeros."""
    rooms = list(range(len(way.table)))
    rows = [way.surplus(i) for i in rooms]
    found = []
    for i in rooms:
        zeros = [at for at in rooms if rows[i][at] == 0]
        for j in rooms:
            # From a room an arrow leads to each room whose row is added to its row.
            if j != i and rows[i][j] > 0:
                filled = len([at for at in zeros if rows[j][at] > 0])
                found.append((-filled, sum(rows[j]), i, j))
    best = min(found) if found else (0,)
    return best[2:] if best[0] < 0 else ()


def add_rooms(way, n):
    """Bring a web, all items of whose surplus are above 0, to so many rooms, so that it is such a
    web again."""
    while len(way.table) < n:
        fresh = len(way.table)
        _, room = min([(sum(row), at) for at, row in enumerate(way.table)])
        way.go(("stretch", room, room))
        # The new room's only arrow leads back; now it has the arrows of that room.
        way.add_row(fresh, room, 1)
        fill(way)


def level(way):
    """Bring all items of row 0 to their greatest common divisor: Euclid's way, by columns."""
    way.lower_rows()
    row = way.surplus(0)
    while max(row) > min(row):
        high, low = row.index(max(row)), row.index(min(row))
        times = (row[high] - 1) // row[low]
        rest = row[high] - times * row[low]
        for i in range(1, len(row)):
            line = way.surplus(i)
            missing = times * line[low] + 1 - line[high]
            way.add_row(i, 0, max(0, times_for(missing, rest)))
        way.add_column(high, low, -times)
        way.lower_rows()
        row = way.surplus(0)


def times_for(missing, step):
    """The least number of steps that are at least what is missing."""
    return -(-missing // step)


def level_all(way):
    """Bring all items of row 0 to the greatest common divisor of all items."""
    level(way)
    i = unfit_row(way)
    while i > 0:
        row = way.surplus(i)
        if max(row) == min(row):
            share_divisor(way, i)
        else:
            mix_rows(way, i)
            level(way)
        i = unfit_row(way)


def unfit_row(way):
    """The first row with an item that the items of row 0, which are equal, do not divide; 0 if
    there is none."""
    divisor = way.surplus(0)[0]
    for i in range(1, len(way.table)):
        if common_divisor(way.surplus(i)) % divisor != 0:
            return i
    return 0


def share_divisor(way, i):
    """Bring row 0 and another row, both with equal items, to their greatest common divisor."""
    one, other = way.surplus(0)[0], way.surplus(i)[0]
    while one != other:
        if one > other:
            way.add_row(0, i, -((one - 1) // other))
        else:
            way.add_row(i, 0, -((other - 1) // one))
        one, other = way.surplus(0)[0], way.surplus(i)[0]


def mix_rows(way, i):
    """Add another row, whose items are not all equal, to row 0, whose items are, so that the items
    of row 0 have the greatest common divisor of both rows."""
    one = way.surplus(0)[0]
    row = way.surplus(i)
    differences = common_divisor([item - row[0] for item in row])
    wanted = gcd(gcd(one, row[0]), differences)
    times = 0
    while gcd(row[0] + (times + 1) * one, differences) != wanted:
        times += 1
    way.add_row(i, 0, times)
    way.add_row(0, i, 1)
