"""Walks and rounds of a web, and the told rounds of a length."""

from otherpace.checks import check_length
from otherpace.errors import BadRound, TooMany
from otherpace.kinds import is_integer_below
from otherpace.totals import divisors_of_length, told_total
from otherpace.webs import check_web


def is_walk(web, thing):
    """Whether any value is a walk of the web."""
    check_web(web)
    return is_walk_of(web, thing)


def is_walk_of(web, thing):
    """The same as is_walk, for what is surely a web."""
    if not isinstance(thing, tuple) or len(thing) == 0:
        return False
    if not all([is_arrow(web, part) for part in thing]):
        return False
    return all([before[1] == behind[0] for before, behind in zip(thing, thing[1:])])


def is_arrow(web, thing):
    """Whether any value is an arrow of what is surely a web."""
    if not isinstance(thing, tuple) or len(thing) != 3:
        return False
    i, j, k = thing
    if not is_integer_below(i, len(web)) or not is_integer_below(j, len(web)):
        return False
    return is_integer_below(k, web[i][j])


def is_round(web, thing):
    """Whether any value is a round of the web."""
    check_web(web)
    return is_round_of(web, thing)


def is_round_of(web, thing):
    """The same as is_round, for what is surely a web."""
    return is_walk_of(web, thing) and thing[-1][1] == thing[0][0]


def is_told_round(web, thing):
    """Whether any value is a told round of the web."""
    return is_round(web, thing) and is_first_and_plain(thing)


def is_first_and_plain(lap):
    """Whether a round is plain and the first one of its turns."""
    # The arrows so far repeat their first `period` arrows, perhaps not to the end. An arrow
    # that is less than the repeated one begins a turn that comes first.
    period = 1
    for at in range(1, len(lap)):
        repeated = lap[at - period]
        if lap[at] < repeated:
            return False
        if lap[at] > repeated:
            period = at + 1
    return period == len(lap)


def check_round(web, lap):
    """Raise BadWeb for any value that is not a web, then BadRound if this is no round of it."""
    if not is_round(web, lap):
        raise BadRound(lap)


def turns(web, lap):
    """The ascending tuple of all turns of a round."""
    check_round(web, lap)
    starts = list(range(plain_length(lap)))
    return tuple(sorted([lap[start:] + lap[:start] for start in starts]))


def told_form(web, lap):
    """The pair of the told form of a round and its times."""
    check_round(web, lap)
    length = plain_length(lap)
    return (first_turn(lap[:length]), len(lap) // length)


def plain_length(lap):
    """The length of the plain round of which this round is a repetition."""
    # The length of the whole round is among the divisors, so one of them is found.
    return min([d for d in divisors_of_length(len(lap)) if lap[d:] == lap[:len(lap) - d]])


def first_turn(lap):
    """The first one of the turns of a round, found without a look at whole turns."""
    many = len(lap)
    one, other, alike = 0, 1, 0
    # Two starts are compared; alike tells how many arrows behind them are the same.
    while one < many and other < many and alike < many:
        here = lap[(one + alike) % many]
        there = lap[(other + alike) % many]
        if here == there:
            alike += 1
            continue
        # A start within the same arrows is not better than the one that lost.
        if here > there:
            one += alike + 1
        else:
            other += alike + 1
        if one == other:
            other += 1
        alike = 0
    start = min(one, other)
    return lap[start:] + lap[:start]


def rounds(web, length, *, most=4096):
    """The ascending tuple of all told rounds with this length."""
    check_web(web)
    check_length(length, 1)
    # They are counted before any is made, as there may be far too many to make.
    if told_total(web, length) > most:
        raise TooMany(most)
    return told_rounds(web, length)


def told_rounds(web, length):
    """The same as rounds, however many there are, for what is surely a web and a length."""
    ways = ways_by_length(web, length)
    begun = [((arrow,), 1) for arrow in first_arrows(web, ways[length - 1])]
    for many in range(2, length + 1):
        begun = one_longer(web, begun, ways[length - many])
    return tuple([walk for walk, period in begun if period == length])


def ways_by_length(web, length):
    """For each length from 0 to one less than this one, the table of whether a walk of that
    length leads from room to room."""
    rooms = list(range(len(web)))
    ways = [[[i == j for j in rooms] for i in rooms]]
    for _ in range(length - 1):
        last = ways[-1]
        ways.append([[any([last[i][m] and web[m][j] > 0 for m in rooms]) for j in rooms] for i in rooms])
    return ways


def first_arrows(web, ways_back):
    """The ascending list of the arrows with a way back to the room in which they begin."""
    rooms = list(range(len(web)))
    return [(i, j, k) for i in rooms for j in rooms if ways_back[j][i] for k in range(web[i][j])]


def one_longer(web, begun, ways_back):
    """The beginnings of told rounds with one more arrow, with a way back to their first room.

    Each beginning is a pair of a walk and its period, as in is_first_and_plain. They ascend.
    """
    longer = []
    for walk, period in begun:
        repeated = walk[len(walk) - period]
        for arrow in arrows_on(web, walk, ways_back):
            if arrow == repeated:
                longer.append((walk + (arrow,), period))
            elif arrow > repeated:
                longer.append((walk + (arrow,), len(walk) + 1))
    return longer


def arrows_on(web, walk, ways_back):
    """The ascending list of the arrows behind a walk with a way back to its first room."""
    home = walk[0][0]
    room = walk[-1][1]
    targets = [j for j in range(len(web)) if ways_back[j][home]]
    return [(room, j, k) for j in targets for k in range(web[room][j])]
