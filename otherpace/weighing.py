"""Heights for weights: whether any round has a weight below 0, for what is surely a web."""

from otherpace.kinds import is_row
from otherpace.walks import first_turn
from otherpace.webs import arrows_of


def weights_for(prices, times, number):
    """The row that is below 0 on a round exactly if its price is less than the number for each
    unit of time. The top and bottom count as they are passed."""
    return tuple([number[1] * worth - number[0] * time for worth, time in zip(prices, times)])


def judge_weights(web, weights):
    """("heights", heights) if no round has a weight below 0, otherwise ("round", round) with a
    told round that has, in which no room occurs twice.

    Each arrow has at least the weight by which its end is higher than its beginning.
    (R. Bellman 1958, L. Ford 1956.)
    """
    steps = list(zip(arrows_of(web), weights))
    heights = [0] * len(web)
    last = [()] * len(web)
    lowered = 0
    for _ in range(len(web)):
        lowered = lower_heights(steps, heights, last)
        if lowered < 0:
            return ("heights", tuple([height - heights[0] for height in heights]))
    return ("round", lap_behind(last, lowered))


def lower_heights(steps, heights, last):
    """Lower each room to what the arrows to it allow, and note the last arrow that did it.

    Returns the room that was lowered last, -1 if there was none.
    """
    lowered = -1
    for arrow, weight in steps:
        height = heights[arrow[0]] + weight
        if height < heights[arrow[1]]:
            lowered = arrow[1]
            heights[lowered] = height
            last[lowered] = arrow
    return lowered


def lap_behind(last, start):
    """The told round into which the noted arrows lead, if one goes back from a room for ever."""
    room = start
    for _ in range(len(last)):
        room = last[room][0]
    walk = [last[room]]
    while walk[-1][0] != room:
        walk.append(last[walk[-1][0]])
    return first_turn(tuple(reversed(walk)))


def heights_fit(web, weights, thing):
    """Whether any value is heights, with 0 for room 0, that show that no round has a weight
    below 0."""
    if not is_row(thing, len(web)) or thing[0] != 0:
        return False
    steps = list(zip(arrows_of(web), weights))
    return all([weight >= thing[arrow[1]] - thing[arrow[0]] for arrow, weight in steps])
