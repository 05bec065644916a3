"""Counts of arrows: whether a round has them, how many have, and simple rounds that make them up."""

from math import factorial

from otherpace.checks import check_counts
from otherpace.errors import BadWalk
from otherpace.kinds import is_integer_below, is_paper
from otherpace.polynomials import determinant
from otherpace.ratios import common_divisor
from otherpace.simple import is_simple_of, is_simple_told, simple_rounds_of
from otherpace.totals import signed_divisors
from otherpace.walks import first_turn, is_round_of, is_walk_of
from otherpace.webs import arrows_of, check_web, reached_from


def counts_of(web, walk):
    """How often each arrow occurs in a walk."""
    check_web(web)
    if not is_walk_of(web, walk):
        raise BadWalk(walk)
    return counts_in(web, walk)


def counts_in(web, steps):
    """How often each arrow occurs among some arrows."""
    return tuple([steps.count(arrow) for arrow in arrows_of(web)])


def is_simple(web, thing):
    """Whether any value is a simple round of the web."""
    check_web(web)
    return is_simple_of(web, thing)


def simple_rounds(web):
    """The ascending tuple of the simple told rounds."""
    check_web(web)
    return tuple(simple_rounds_of(web))


def counted_table(web, counts):
    """The table of how many counted arrows lead from room to room."""
    table = [[0] * len(web) for room in web]
    for arrow, many in zip(arrows_of(web), counts):
        table[arrow[0]][arrow[1]] += many
    return table


def is_uneven(table, room):
    """Whether as many counted arrows do not begin in a room as end in it."""
    return sum(table[room]) != sum([row[room] for row in table])


def fault_of_counts(web, counts):
    """The paper that no round has these counts, () if a round has them."""
    table = counted_table(web, counts)
    rooms = list(range(len(web)))
    begun = [room for room in rooms if sum(table[room]) > 0]
    if not begun:
        return ("nought",)
    uneven = [room for room in rooms if is_uneven(table, room)]
    if uneven:
        return ("uneven", uneven[0])
    # As the counts are even, each counted arrow lies on a round, so there is a way back, too.
    part = sorted(reached_from(table, begun[0]))
    if part != begun:
        return ("parts", tuple(part))
    return ()


def judge_counts(web, counts):
    """A paper that tells whether a round has these counts."""
    check_web(web)
    check_counts(web, counts)
    fault = fault_of_counts(web, counts)
    return fault if fault else ("round", round_of_counts(web, counts))


def leaving(web, counts):
    """For each room the list of the counted arrows that begin in it, each as often as counted."""
    found = [[] for room in web]
    for arrow, many in zip(arrows_of(web), counts):
        found[arrow[0]].extend([arrow] * many)
    return found


def round_of_counts(web, counts):
    """A round with these counts, if there is one: C. Hierholzer's way."""
    left = leaving(web, counts)
    start = min([room for room in range(len(web)) if left[room]])
    ahead = []
    walked = []
    room = start
    while left[room] or ahead:
        if left[room]:
            ahead.append(left[room].pop())
            room = ahead[-1][1]
        else:
            # Nothing is left to leave this room by, so the walk goes on from here at last.
            walked.append(ahead.pop())
            room = walked[-1][0]
    return tuple(reversed(walked))


def counts_hold(web, counts, thing):
    """Whether any value is a right paper for counts, as judge_counts returns them."""
    check_web(web)
    check_counts(web, counts)
    if is_paper(thing, "nought", 1):
        return sum(counts) == 0
    if is_paper(thing, "uneven", 2):
        return uneven_holds(web, counts, thing[1])
    if is_paper(thing, "parts", 2):
        return parts_hold(web, counts, thing[1])
    if not is_paper(thing, "round", 2) or not is_round_of(web, thing[1]):
        return False
    return counts_in(web, thing[1]) == counts


def uneven_holds(web, counts, thing):
    """Whether any value is a room at which the counts are uneven."""
    return is_integer_below(thing, len(web)) and is_uneven(counted_table(web, counts), thing)


def parts_hold(web, counts, thing):
    """Whether any value is an ascending tuple of rooms that no counted arrow leaves or enters,
    while counted arrows begin both inside and outside."""
    if not isinstance(thing, tuple) or not all([is_integer_below(room, len(web)) for room in thing]):
        return False
    if not all([before < behind for before, behind in zip(thing, thing[1:])]):
        return False
    counted = [arrow for arrow, many in zip(arrows_of(web), counts) if many > 0]
    if not all([(arrow[0] in thing) == (arrow[1] in thing) for arrow in counted]):
        return False
    inside = [arrow for arrow in counted if arrow[0] in thing]
    return 0 < len(inside) < len(counted)


def counted_many(web, counts):
    """The number of rounds with these counts."""
    check_web(web)
    check_counts(web, counts)
    return 0 if fault_of_counts(web, counts) else counted_total(web, counts)


def counted_total(web, counts):
    """The same as counted_many, for the counts of a round, by the product that [3.2] tells."""
    table = counted_table(web, counts)
    begun = [room for room in range(len(web)) if sum(table[room]) > 0]
    minor = [[sum(table[i]) * int(i == j) - table[i][j] for j in begun[1:]] for i in begun[1:]]
    total = sum(counts) * determinant(minor)
    for room in begun:
        total = total * factorial(sum(table[room]) - 1)
    for many in counts:
        total = total // factorial(many)
    return total


def told_many(web, counts):
    """The number of told rounds with these counts."""
    check_web(web)
    check_counts(web, counts)
    if fault_of_counts(web, counts):
        return 0
    total = 0
    for divisor, sign in signed_divisors(common_divisor(counts)):
        total += sign * counted_total(web, tuple([many // divisor for many in counts]))
    return total // sum(counts)


def judge_sum(web, counts):
    """A paper that tells whether counts are the sum of the counts of simple rounds."""
    check_web(web)
    check_counts(web, counts)
    table = counted_table(web, counts)
    for room in range(len(web)):
        if is_uneven(table, room):
            return ("uneven", room)
    left = leaving(web, counts)
    found = []
    for room in range(len(web)):
        found.extend(taken_rounds(left, room))
    return ("sum", tuple(sorted(found)))


def taken_rounds(left, start):
    """Take all arrows out that a walk from a room comes to, for even counts, and list the simple
    told rounds that it closes."""
    found = []
    walk = []
    room = start
    # Even counts let the walk end only where it began, so no arrow is left over then.
    while left[room]:
        walk.append(left[room].pop())
        room = walk[-1][1]
        passed = [arrow[0] for arrow in walk]
        if room in passed:
            at = passed.index(room)
            found.append(first_turn(tuple(walk[at:])))
            walk = walk[:at]
    return found


def sum_holds(web, counts, thing):
    """Whether any value is a right paper for counts, as judge_sum returns them."""
    check_web(web)
    check_counts(web, counts)
    if is_paper(thing, "uneven", 2):
        return uneven_holds(web, counts, thing[1])
    if not is_paper(thing, "sum", 2) or not isinstance(thing[1], tuple):
        return False
    if not all([is_simple_told(web, part) for part in thing[1]]):
        return False
    if not all([before <= behind for before, behind in zip(thing[1], thing[1][1:])]):
        return False
    return counts_in(web, [arrow for part in thing[1] for arrow in part]) == counts
