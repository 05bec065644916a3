"""Price rows, heights and trees, for what is surely a web and a row that fits."""

from otherpace.ratios import common_divisor
from otherpace.webs import arrows_of


def row_less(one, other):
    """One row minus the other one."""
    return tuple([x - y for x, y in zip(one, other)])


def price_of(web, prices, walk):
    """The price of a walk."""
    worth = dict(zip(arrows_of(web), prices))
    return sum([worth[arrow] for arrow in walk])


def slope_of(web, heights):
    """The slope of heights."""
    return tuple([heights[arrow[1]] - heights[arrow[0]] for arrow in arrows_of(web)])


def tree_from(web, start):
    """The list of the arrows of the tree from a room, in the sequence in which they list rooms.

    From room 0 it is the first tree.
    """
    listed = [start]
    tree = []
    at = 0
    while at < len(listed):
        room = listed[at]
        for other in range(len(web)):
            if web[room][other] > 0 and other not in listed:
                listed.append(other)
                tree.append((room, other, 0))
        at += 1
    return tree


def walks_from(web, start):
    """For each room the walk of the tree from a room, as a tuple: no arrow for this room itself."""
    walks = [()] * len(web)
    for arrow in tree_from(web, start):
        walks[arrow[1]] = walks[arrow[0]] + (arrow,)
    return walks


def tree_heights(web, prices):
    """The heights, 0 for room 0, in whose slope the first tree has the same prices."""
    worth = dict(zip(arrows_of(web), prices))
    heights = [0] * len(web)
    for arrow in tree_from(web, 0):
        heights[arrow[1]] = heights[arrow[0]] + worth[arrow]
    return heights


def plain_of(web, prices):
    """The plain price row that agrees with a price row."""
    return row_less(prices, slope_of(web, tree_heights(web, prices)))


def period_of_web(web):
    """The greatest integer that divides the lengths of all rounds, without a look at single
    arrows: a web may have far too many."""
    levels = [len(walk) for walk in walks_from(web, 0)]
    rooms = list(range(len(web)))
    return common_divisor([levels[i] + 1 - levels[j] for i in rooms for j in rooms if web[i][j] > 0])
