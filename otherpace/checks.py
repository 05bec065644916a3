"""Checks of arguments: each raises its error, with the argument, for any value that is wrong.

Where a web is passed, it is surely one.
"""

from otherpace.errors import BadCounts, BadLength, BadNumber, BadPrices, BadRoom, BadTimes
from otherpace.kinds import is_integer_below, is_integer_from, is_number, is_row, is_row_from
from otherpace.webs import arrows_many


def check_room(web, thing):
    """Raise BadRoom for any value that is not a room."""
    if not is_integer_below(thing, len(web)):
        raise BadRoom(thing)


def check_length(thing, least):
    """Raise BadLength for any value that is not an integer that is at least so much."""
    if not is_integer_from(thing, least):
        raise BadLength(thing)


def check_integer(thing, least):
    """Raise BadNumber for any value that is not an integer that is at least so much."""
    if not is_integer_from(thing, least):
        raise BadNumber(thing)


def check_number(thing):
    """Raise BadNumber for any value that is not a number."""
    if not is_number(thing):
        raise BadNumber(thing)


def check_prices(web, thing):
    """Raise BadPrices for any value that is not a price row."""
    if not is_row(thing, arrows_many(web)):
        raise BadPrices(thing)


def check_counts(web, thing):
    """Raise BadCounts for any value that is not counts."""
    if not is_row_from(thing, arrows_many(web), 0):
        raise BadCounts(thing)


def check_times(web, thing):
    """Raise BadTimes for any value that is not a time row."""
    if not is_row_from(thing, arrows_many(web), 1):
        raise BadTimes(thing)
