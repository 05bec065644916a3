"""[5.1], [5.3] and [5.4]: whether one web has at most as many told rounds of each length."""

import random
import unittest

from otherpace.errors import BadLength, BadPeriod, BadWeb, NotMore
from otherpace.within import barring_lengths, is_bound, judge_within, spare, within_holds
from tests import plainly, right
from tests.samples import ANY_VALUES, EIGHT, G, LONG_RING, LOOPS, NO_WEBS, TWO_STEPS, changed_once, random_web

WEBS_5 = [((0, 4, 4), (4, 0, 4), (4, 4, 0)), ((4,) * 3,) * 3, ((0, 1, 0), (0, 0, 1), (1, 1, 0)), G, LOOPS, TWO_STEPS,
          ((0, 4), (4, 0)), ((0, 4, 0), (0, 0, 4), (4, 0, 0)), ((4,),), ((1, 4), (4, 0)), ((0, 1), (4, 3))]


def pairs(seed, many):
    """Pairs of webs as the limits tell: the growths differ by at least 1 / 4, or other has no more."""
    source = random.Random(seed)
    webs = WEBS_5 + [random_web(source, source.randint(1, 3), source.choice((2, 3, 4, 4))) for _ in range(40)]
    for _ in range(many):
        one, other = source.choice(webs), source.choice(webs)
        if not 1e-9 < plainly.growth(other) - plainly.growth(one) < 0.25:
            yield one, other


FITTING = [(one, other) for one, other in pairs(501, 330)
           if plainly.period(other) == 1 and plainly.growth(other) > plainly.growth(one) + 1e-6]


def told(web, most):
    return plainly.told_numbers(plainly.closed_numbers(web, most))


class Within(unittest.TestCase):
    def test_examples(self):
        self.assertEqual(spare(TWO_STEPS, LOOPS, 2), -1)
        self.assertEqual(judge_within(TWO_STEPS, LOOPS), ("length", 2))
        self.assertEqual(barring_lengths(TWO_STEPS, LOOPS), (2,))
        self.assertIs(within_holds(TWO_STEPS, LOOPS, ("length", 4)), False)
        self.assertEqual(judge_within(G, LOOPS)[0], "within")
        self.assertEqual([spare(G, LOOPS, length) for length in range(1, 6)], [1, 0, 1, 2, 4])
        self.assertEqual(barring_lengths(G, LOOPS), ())

    def test_papers(self):
        kinds = {"within": 0, "length": 0}
        for one, other in FITTING:
            paper = judge_within(one, other)
            kinds[paper[0]] += 1
            self.assertTrue(right.within(one, other, paper), (one, other, paper))
            self.assertIs(within_holds(one, other, paper), True)
            if paper[0] == "within":
                self.assertIs(is_bound(one, other, paper[1]), True)
                self.assertLessEqual(paper[1][0], 400)
        self.assertGreater(min(kinds.values()), 20)

    def test_barring_lengths_and_spares(self):
        several = 0
        for one, other in FITTING:
            spares = [more - less for less, more in zip(told(one, 120), told(other, 120))]
            barring = tuple(length for length, many in enumerate(spares, 1) if many < 0)
            self.assertEqual(barring_lengths(one, other), barring)
            self.assertEqual([spare(one, other, length) for length in range(1, 31)], spares[:30])
            several += len(barring) > 1
            for length in range(1, 13):
                self.assertIs(within_holds(one, other, ("length", length)), length in barring)
        self.assertGreater(several, 2)

    def test_several_barring_lengths(self):
        self.assertEqual(barring_lengths(((0, 4), (4, 0)), ((0, 1), (2, 4))), (2, 4, 6))
        self.assertEqual(barring_lengths(((0, 4, 0), (0, 0, 4), (4, 0, 0)), ((1, 4), (4, 0))), (3, 6, 9))
        self.assertEqual(barring_lengths(((4,),), ((1, 4), (4, 0))), (1, 3))

    def test_a_right_bound_where_a_length_bars(self):
        bound = (8, (3, 2), (4, 3), (2, 1), (1,), (2, 1), (1,), 1)
        self.assertTrue(right.bound(TWO_STEPS, LOOPS, bound))
        self.assertIs(is_bound(TWO_STEPS, LOOPS, bound), True)
        self.assertIs(within_holds(TWO_STEPS, LOOPS, ("within", bound)), False)

    def test_a_bound_that_was_made_otherwise(self):
        for length in range(10, 60):
            bound = (length, (5, 3), (5, 3), (4, 2), (7,), (5, 2), (3,), 2)
            expected = right.within(G, LOOPS, ("within", bound))
            self.assertIs(within_holds(G, LOOPS, ("within", bound)), expected)
            self.assertIs(is_bound(G, LOOPS, bound), expected)
        self.assertTrue(expected)

    def test_lengths_of_papers(self):
        for length in (0, -2, True, 2.5, "2", (2,), None, 10 ** 39, 4001, 4002):
            self.assertIs(within_holds(TWO_STEPS, LOOPS, ("length", length)), False)
        # Of even length the first web has far more rounds than the second one, but it has less growth.
        one, other = ((0, 4), (4, 0)), ((0, 1), (2, 4))
        for length, holds in ((1, False), (2, True), (3, False), (4, True), (6, True), (8, False), (4000, False)):
            self.assertIs(within_holds(one, other, ("length", length)), holds)

    def test_great_lengths(self):
        for one, other in ((G, LOOPS), (((4,) * 2 + (3,),) * 3, ((4,) * 3,) * 3), (((0, 4), (4, 0)), ((4, 1), (1, 4)))):
            for length in (999, 1000, 3999, 4000):
                found = spare(one, other, length)
                closed = [plainly_closed(web, length) for web in (one, other)]
                self.assertEqual(found % 2 ** 61, (closed[1] - closed[0]) % 2 ** 61)
                self.assertIs(within_holds(one, other, ("length", length)), False)

    def test_values_of_all_kinds(self):
        for one, other in ((TWO_STEPS, LOOPS), (G, LOOPS), (((0, 4), (4, 0)), ((0, 1), (2, 4)))):
            paper = judge_within(one, other)
            bound = ("within", (40, (17, 10), (17, 10), (4, 2), (7,), (4, 2), (3,), 2))
            for thing in (paper, bound, ("length", 4), ("length", 6)):
                for thing in (thing, list(thing), thing[:1], thing + (0,)) + tuple(changed_once(thing)) + ANY_VALUES:
                    if is_quick(thing):
                        self.assertIs(within_holds(one, other, thing), right.within(one, other, thing), thing)


def plainly_closed(web, length):
    """The number of told rounds, by powers of the table that are taken modulo a great number."""
    modulus = 2 ** 61 * length

    def power(exponent):
        result, square = plainly.power(web, 0), web
        while exponent:
            if exponent & 1:
                result = [[item % modulus for item in row] for row in plainly.product(result, square)]
            square = [[item % modulus for item in row] for row in plainly.product(square, square)]
            exponent //= 2
        return sum(result[i][i] for i in range(len(web)))
    total = 0
    for divisor in range(1, length + 1):
        if length % divisor == 0:
            total += mu(divisor) * power(length // divisor)
    return total % modulus // length


def mu(number):
    result = 1
    for prime in range(2, number + 1):
        if number % prime == 0:
            number //= prime
            result = -result if number % prime else 0
            while number % prime == 0:
                number //= prime
    return result


def is_quick(thing):
    """Whether the slow way of the tests can look at a paper."""
    if type(thing) is tuple and len(thing) == 2 and type(thing[1]) is tuple:
        return not any(type(item) is int and item > 100 for item in thing[1])
    return not (type(thing) is tuple and len(thing) == 2 and type(thing[1]) is int and 300 < thing[1] <= 4000)


class Errors(unittest.TestCase):
    CALLS = ((judge_within, ()), (within_holds, (("length", 2),)), (is_bound, (None,)), (spare, (None,)),
             (barring_lengths, ()))

    def test_bad_period_ahead_of_not_more(self):
        for one, other in pairs(502, 150):
            period = plainly.period(other)
            for function, rest in self.CALLS:
                if period != 1:
                    with self.assertRaises(BadPeriod) as caught:
                        function(one, other, *rest)
                    self.assertEqual(vars(caught.exception), {"period": period})
                elif plainly.growth(other) < plainly.growth(one) + 1e-6:
                    with self.assertRaises(NotMore):
                        function(one, other, *rest)

    def test_named_periods(self):
        for other, period in ((TWO_STEPS, 2), (((0, 4, 0), (0, 0, 4), (4, 0, 0)), 3), (LONG_RING, 5)):
            for one in (G, LOOPS, ((4,),), other):
                with self.assertRaises(BadPeriod) as caught:
                    judge_within(one, other)
                self.assertEqual(caught.exception.period, period)

    def test_the_same_growth(self):
        for one, other in ((G, G), (LOOPS, ((1, 1), (1, 1))), (((0, 2), (2, 0)), LOOPS),
                           (G, ((1, 1, 0), (0, 0, 1), (1, 1, 0))), (((4,),), LOOPS), (((3,) * 3,) * 3, ((4, 4), (4, 4)))):
            for function, rest in self.CALLS:
                with self.assertRaises(NotMore):
                    function(one, other, *rest)

    def test_bad_web_first(self):
        for function, rest in self.CALLS:
            for thing in NO_WEBS + (None, [[2]], ((True, 1), (1, 1))):
                for args in ((thing, thing), (thing, TWO_STEPS), (LOOPS, thing), (EIGHT, thing)):
                    with self.assertRaises(BadWeb) as caught:
                        function(*args, *rest)
                    self.assertIs(caught.exception.thing, thing)

    def test_bad_length_last(self):
        for thing in (0, -1, True, False, None, "2", (2,), [], {}):
            with self.assertRaises(BadLength) as caught:
                spare(G, LOOPS, thing)
            self.assertIs(caught.exception.thing, thing)
            with self.assertRaises(NotMore):
                spare(LOOPS, LOOPS, thing)
            with self.assertRaises(BadPeriod):
                spare(LOOPS, TWO_STEPS, thing)


class Largest(unittest.TestCase):
    def test_many_times(self):
        for _ in range(3):
            for one, other in FITTING:
                self.assertIs(within_holds(one, other, judge_within(one, other)), True)


if __name__ == "__main__":
    unittest.main()
