"""Numbers of walks and rounds, and whether two webs have as many told rounds of each length."""

from otherpace.checks import check_length, check_room
from otherpace.kinds import is_integer, is_integer_from, is_paper
from otherpace.polynomials import bottom_without_zeros
from otherpace.tables import table_power
from otherpace.totals import closed_total, told_times_length, told_total
from otherpace.webs import check_web

# The greatest length that a paper may tell.
MOST_LENGTH = 4000
# A great prime: almost all numbers that differ have different remainders modulo it.
SIEVE = 2305843009213693951


def walks_many(web, i, j, length):
    """The number of walks of a length, from 0 on, from room i to room j."""
    check_web(web)
    check_room(web, i)
    check_room(web, j)
    check_length(length, 0)
    return table_power(web, length)[i][j]


def closed_many(web, length):
    """The number of rounds with a length."""
    check_web(web)
    check_length(length, 1)
    return closed_total(web, length)


def rounds_many(web, length):
    """The number of told rounds with a length."""
    check_web(web)
    check_length(length, 1)
    return told_total(web, length)


def bottom_of(web):
    """The fraction's bottom: the coefficients of det(1 - t A) by ascending powers of t."""
    check_web(web)
    return bottom_without_zeros(web)


def judge_as_many(one, other):
    """A paper that tells whether two webs have as many told rounds of each length."""
    check_web(one)
    check_web(other)
    polynomial = bottom_without_zeros(one)
    length = first_difference(polynomial, bottom_without_zeros(other))
    if length == 0:
        return ("as many", polynomial)
    return ("length", length)


def first_difference(one, other):
    """The first length at which webs with these bottoms have unlike numbers, 0 if there is none.

    It is also the first power at which the bottoms differ: each coefficient is told by the
    closed numbers up to its power, and the other way round.
    """
    zeros = (0,) * max(len(one), len(other))
    for at, (item, other_item) in enumerate(zip(one + zeros, other + zeros)):
        if item != other_item:
            return at
    return 0


def as_many_holds(one, other, thing):
    """Whether any value is a right paper for two webs, as judge_as_many returns them."""
    check_web(one)
    check_web(other)
    polynomial = bottom_without_zeros(one)
    other_polynomial = bottom_without_zeros(other)
    if is_paper(thing, "as many", 2):
        return is_same_row(thing[1], polynomial) and polynomial == other_polynomial
    if not is_paper(thing, "length", 2) or not is_integer_from(thing[1], 1) or thing[1] > MOST_LENGTH:
        return False
    return polynomial != other_polynomial and are_unlike_at(polynomial, other_polynomial, thing[1])


def is_same_row(thing, row):
    """Whether any value is equal to a tuple of integers; True is not the same as 1 here."""
    return isinstance(thing, tuple) and all([is_integer(item) for item in thing]) and thing == row


def are_unlike_at(one, other, length):
    """Whether webs with these bottoms have unlike numbers of told rounds with a length."""
    # The exact numbers may be very long, and are hardly ever needed to see that they differ.
    for modulus in (SIEVE, 0):
        if told_times_length(one, length, modulus) != told_times_length(other, length, modulus):
            return True
    return False
