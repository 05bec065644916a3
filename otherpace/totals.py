"""How many rounds of a length a web has, without a look at single rounds."""

from otherpace.tables import table_power


def closed_total(web, length):
    """How many rounds have this length, from 1 on."""
    table = table_power(web, length)
    return sum([table[i][i] for i in range(len(table))])


def told_total(web, length):
    """How many told rounds have this length, from 1 on."""
    total = 0
    for divisor in divisors_of_length(length):
        total += moebius(divisor) * closed_total(web, length // divisor)
    return total // length


def divisors_of_length(length):
    """The list of the integers from 1 on that divide the length, ascending."""
    return [d for d in range(1, length + 1) if length % d == 0]


def moebius(number):
    """mu of an integer from 1 on: 0 if a square above 1 divides it, else -1 or 1 by its primes."""
    result = 1
    left = number
    prime = 2
    while left > 1:
        if left % prime == 0:
            left = left // prime
            result = -result
            if left % prime == 0:
                return 0
        prime += 1
    return result
