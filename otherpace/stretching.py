"""Webs in which arrows take times of their own, as webs with more rooms or by numbers alone."""

from otherpace.checks import check_length, check_times
from otherpace.errors import TooManyRooms
from otherpace.tables import unit_table
from otherpace.totals import signed_divisors
from otherpace.webs import MOST_ROOMS, arrows_of, check_web


def stretched(web, times):
    """The web in which each arrow is replaced by a walk of as many arrows as its time tells."""
    check_web(web)
    check_times(web, times)
    many = len(web) + sum(times) - len(times)
    if many > MOST_ROOMS:
        raise TooManyRooms()
    table = [[0] * many for row in range(many)]
    fresh = len(web)
    for arrow, time in zip(arrows_of(web), times):
        room = arrow[0]
        for _ in range(time - 1):
            table[room][fresh] += 1
            room = fresh
            fresh += 1
        table[room][arrow[1]] += 1
    return tuple([tuple(row) for row in table])


def timed_many(web, times, time):
    """The number of told rounds with this time."""
    check_web(web)
    check_times(web, times)
    check_length(time, 1)
    steps = list(zip(arrows_of(web), times))
    ways = ways_by_time(len(web), steps, time)
    parts = [sign * closed_timed(steps, ways, time // divisor) for divisor, sign in signed_divisors(time)]
    return sum(parts) // time


def ways_by_time(many, steps, most):
    """For each time from 0 to this one, the table of how many walks of that time, the one of
    no arrow among them, lead from room to room."""
    ways = [unit_table(many)]
    for time in range(1, most + 1):
        table = [[0] * many for row in range(many)]
        for arrow, taken in steps:
            if taken <= time:
                behind = ways[time - taken][arrow[1]]
                table[arrow[0]] = [x + y for x, y in zip(table[arrow[0]], behind)]
        ways.append(table)
    return ways


def closed_timed(steps, ways, time):
    """The closed number of the stretched web for a length.

    Each of its rounds begins somewhere on an arrow, at one of so many places as its time
    tells, and goes on with a walk from this arrow's end to its beginning.
    """
    fitting = [(arrow, taken) for arrow, taken in steps if taken <= time]
    return sum([taken * ways[time - taken][arrow[1]][arrow[0]] for arrow, taken in fitting])
