"""How many rounds of a length a web has, without a look at single rounds."""

from otherpace.polynomials import bottom_without_zeros, power_sum, remainder


def closed_total(web, length):
    """How many rounds have this length, from 1 on."""
    # The closed numbers are the sums of the powers of the roots.
    return power_sum(bottom_without_zeros(web), length, 0)


def told_total(web, length):
    """How many told rounds have this length, from 1 on."""
    return told_times_length(bottom_without_zeros(web), length, 0) // length


def told_times_length(bottom, length, modulus):
    """The number of told rounds with a length, times this length, by the fraction's bottom.

    It is exact if the modulus is 0, otherwise the remainder modulo this.
    """
    parts = [sign * power_sum(bottom, length // divisor, modulus) for divisor, sign in signed_divisors(length)]
    return remainder(sum(parts), modulus)


def told_totals(web, most):
    """The list of the numbers of told rounds for all lengths from 1 to most."""
    left = closed_totals(bottom_without_zeros(web), most)
    for length in range(1, most + 1):
        # By now the rounds that are repetitions of shorter ones are taken away here.
        for longer in range(2 * length, most + 1, length):
            left[longer - 1] -= left[length - 1]
    return [many // length for length, many in enumerate(left, start=1)]


def closed_totals(bottom, most):
    """The list of the closed numbers for all lengths from 1 to most, by the fraction's bottom."""
    found = []
    for length in range(1, most + 1):
        # I. Newton's sums; behind the polynomial's end its own item is missing.
        total = -length * bottom[length] if length < len(bottom) else 0
        for at in range(1, min(length, len(bottom))):
            total -= bottom[at] * found[length - at - 1]
        found.append(total)
    return found


def signed_divisors(number):
    """The list of the pairs (d, mu(d)) for all divisors d of an integer from 1 on, without
    those for which mu(d) is 0."""
    pairs = [(divisor, moebius(divisor)) for divisor in divisors_of_length(number)]
    return [(divisor, sign) for divisor, sign in pairs if sign != 0]


def divisors_of_length(length):
    """The list of the integers from 1 on that divide the length, ascending."""
    return [d for d in range(1, length + 1) if length % d == 0]


def moebius(number):
    """mu of an integer from 1 on: 0 if a square above 1 divides it, else -1 or 1 by its primes."""
    result = 1
    left = number
    prime = 2
    while left > 1:
        if left % prime == 0:
            left = left // prime
            result = -result
            if left % prime == 0:
                return 0
        prime += 1
    return result
