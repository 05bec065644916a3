"""[2.5]: least and greatest rates, tight arrows, and papers for "at least so much"."""

import math
import random
import unittest
from fractions import Fraction

from otherpace.errors import BadNumber, BadPrices, BadTimes, BadWeb
from otherpace.prices import slope
from otherpace.rates import at_least_holds, greatest_rate, judge_at_least, least_rate, tight_arrows
from tests import plainly, right
from tests.samples import (
    ANY_VALUES, EIGHT, G, LONG_RING, LOOPS, TWO_STEPS, changed_once, random_round, random_row, random_web, random_webs)

PRICES, ONES = (5, 2, 1), (1, 1, 1)
OUT_AND_BACK = ((0, 1, 0), (1, 0, 0))
PERIODIC = ((0, 2, 0, 0), (0, 0, 1, 2), (1, 0, 0, 0), (2, 0, 0, 0))
WEBS = [G, LOOPS, ((4,),), TWO_STEPS, LONG_RING, EIGHT, PERIODIC] + random_webs(81, 30, rooms=4)


def cases(seed):
    """Webs with price and time rows, and the rates of all simple rounds."""
    source = random.Random(seed)
    for web in WEBS:
        laps = plainly.simple_rounds(web)
        for price, time in ((10 ** 6, 12), (3, 2), (1, 1)):
            prices, times = random_row(source, web, -price, price), random_row(source, web, 1, time)
            yield web, prices, times, {lap: rate_of(web, prices, times, lap) for lap in laps}


def rate_of(web, prices, times, lap):
    return Fraction(plainly.price(web, prices, lap), plainly.price(web, times, lap))


def as_number(fraction):
    return (fraction.numerator, fraction.denominator)


class Rates(unittest.TestCase):
    def test_examples(self):
        self.assertEqual(least_rate(G, PRICES, ONES), (3, 2))
        self.assertEqual(greatest_rate(G, PRICES, ONES), (5, 1))
        self.assertEqual(tight_arrows(G, PRICES, ONES), OUT_AND_BACK)

    def test_against_all_simple_rounds(self):
        for web, prices, times, rates in cases(82):
            self.assertEqual(least_rate(web, prices, times), as_number(min(rates.values())))
            self.assertEqual(greatest_rate(web, prices, times), as_number(max(rates.values())))

    def test_tight_arrows(self):
        for web, prices, times, rates in cases(83):
            least = min(rates.values())
            tight = {arrow for lap, rate in rates.items() if rate == least for arrow in lap}
            self.assertEqual(tight_arrows(web, prices, times), tuple(sorted(tight)))

    def test_all_arrows_tight(self):
        for web in WEBS:
            heights = tuple(range(0, 5 * len(web), 5))
            times = tuple(3 for _ in plainly.arrows(web))
            self.assertEqual(tight_arrows(web, slope(web, heights), times), tuple(plainly.arrows(web)))
            self.assertEqual(least_rate(web, slope(web, heights), times), (0, 1))

    def test_equal_but_not_on_a_round(self):
        # The rounds at rooms 0 and 1 have the least rate; the arrows between them cost nothing
        # one way and much the other way.
        web = ((1, 1), (1, 1))
        self.assertEqual(tight_arrows(web, (0, 0, 5, 0), (1, 1, 1, 1)), ((0, 0, 0), (1, 1, 0)))
        self.assertEqual(tight_arrows(web, (0, 0, 0, 0), (1, 2, 3, 4)), tuple(plainly.arrows(web)))

    def test_a_round_is_tight_exactly_if_all_its_arrows_are(self):
        source = random.Random(84)
        for web, prices, times, _ in cases(85):
            least, tight = Fraction(*least_rate(web, prices, times)), tight_arrows(web, prices, times)
            for _ in range(10):
                lap = random_round(source, web, 12)
                self.assertEqual(rate_of(web, prices, times, lap) == least, all(arrow in tight for arrow in lap))

    def test_lowest_terms(self):
        self.assertEqual(least_rate(LOOPS, (6, 8), (4, 4)), (3, 2))
        self.assertEqual(greatest_rate(LOOPS, (6, 8), (4, 4)), (2, 1))
        self.assertEqual(least_rate(LOOPS, (-6, 8), (4, 4)), (-3, 2))
        self.assertEqual(greatest_rate(LOOPS, (-6, -8), (4, 4)), (-3, 2))
        self.assertEqual(least_rate(LOOPS, (0, 0), (7, 9)), (0, 1))
        self.assertEqual(greatest_rate(LOOPS, (0, 0), (7, 9)), (0, 1))
        for web, prices, times, _ in cases(86):
            for number in (least_rate(web, prices, times), greatest_rate(web, prices, times)):
                self.assertEqual(math.gcd(*number), 1)
                self.assertGreaterEqual(number[1], 1)


def numbers_near(rate, source):
    """Numbers at a rate, just above and below it, also with common divisors."""
    near = Fraction(1, source.choice((97, 999983)))
    for number in (rate, rate + near, rate - near, rate + 1, rate - 1, Fraction(0)):
        yield as_number(number)
        yield tuple(6 * part for part in as_number(number))


class Papers(unittest.TestCase):
    def test_example(self):
        self.assertIs(at_least_holds(G, PRICES, ONES, (3, 2), ("heights", (0, 1))), True)
        paper = judge_at_least(G, PRICES, ONES, (3, 2))
        self.assertTrue(right.at_least(G, PRICES, ONES, (3, 2), paper))
        self.assertEqual(judge_at_least(G, PRICES, ONES, (8, 5)), ("round", OUT_AND_BACK))

    def test_judged(self):
        source = random.Random(87)
        for web, prices, times, rates in cases(88):
            least = min(rates.values())
            for number in numbers_near(least, source):
                paper = judge_at_least(web, prices, times, number)
                self.assertEqual(paper[0], "heights" if Fraction(*number) <= least else "round")
                self.assertTrue(right.at_least(web, prices, times, number, paper))
                self.assertIs(at_least_holds(web, prices, times, number, paper), True)

    def test_numbers_of_6_digits(self):
        source = random.Random(89)
        for web, prices, times, rates in cases(90):
            for number in ((999999, 1), (-999999, 1), (1, 999999), (-1, 999999), (999999, 999998),
                           (source.randint(-999999, 999999), source.randint(1, 999999))):
                paper = judge_at_least(web, prices, times, number)
                self.assertEqual(paper[0], "heights" if Fraction(*number) <= min(rates.values()) else "round")
                self.assertIs(at_least_holds(web, prices, times, number, paper), True)

    def test_heights_count_with_the_number_as_it_is_passed(self):
        # 6 / 4 is 3 / 2, but the heights may and must be twice as great.
        self.assertIs(at_least_holds(G, PRICES, ONES, (6, 4), ("heights", (0, 2))), True)
        self.assertIs(at_least_holds(G, PRICES, ONES, (6, 4), ("heights", (0, 1))), False)
        self.assertIs(at_least_holds(G, PRICES, ONES, (3, 2), ("heights", (0, 2))), False)

    def test_rounds_with_exactly_the_number(self):
        self.assertIs(at_least_holds(G, PRICES, ONES, (3, 2), ("round", OUT_AND_BACK)), False)
        self.assertIs(at_least_holds(G, PRICES, ONES, (4, 2), ("round", OUT_AND_BACK)), True)
        self.assertIs(at_least_holds(G, PRICES, ONES, (4, 2), ("round", ((0, 0, 0),))), False)

    def test_rounds_from_any_arrow_and_not_plain(self):
        for lap in (OUT_AND_BACK * 3, OUT_AND_BACK[::-1], OUT_AND_BACK[::-1] * 5, ((0, 0, 0),) + OUT_AND_BACK):
            self.assertIs(at_least_holds(G, PRICES, ONES, (3, 1), ("round", lap)), True)
            self.assertIs(at_least_holds(G, PRICES, ONES, (1, 1), ("round", lap)), False)
        self.assertIs(at_least_holds(G, PRICES, ONES, (3, 1), ("round", OUT_AND_BACK[:1])), False)

    def test_height_of_room_0(self):
        for by in (-1, 1, 7):
            self.assertIs(at_least_holds(G, PRICES, ONES, (3, 2), ("heights", (by, 1 + by))), False)
        self.assertIs(at_least_holds(G, PRICES, ONES, (1, 1), ("heights", (0, 0))), True)
        self.assertIs(at_least_holds(G, PRICES, ONES, (1, 1), ("heights", (0, 1))), True)
        self.assertIs(at_least_holds(G, PRICES, ONES, (1, 1), ("heights", (0, 2))), False)
        self.assertIs(at_least_holds(G, PRICES, ONES, (1, 1), ("heights", (0, -1))), False)

    def test_no_arrow_may_be_left_out(self):
        for web, prices, times, rates in cases(91):
            number = as_number(min(rates.values()))
            heights = judge_at_least(web, prices, times, number)[1]
            for at in range(len(prices)):
                for row, row_times in ((prices[:at] + (prices[at] - 10 ** 9,) + prices[at + 1:], times),
                                       (prices, times[:at] + (times[at] + 10 ** 9,) + times[at + 1:])):
                    expected = right.at_least(web, row, row_times, number, ("heights", heights))
                    self.assertIs(at_least_holds(web, row, row_times, number, ("heights", heights)), expected)

    def test_values_of_all_kinds(self):
        for number in ((3, 2), (6, 4), (8, 5), (0, 1), (-3, 7)):
            for paper in (("heights", (0, 1)), ("round", OUT_AND_BACK * 2)):
                for thing in (paper, list(paper), paper[:1], paper + (0,)) + tuple(changed_once(paper)) + ANY_VALUES:
                    self.assertIs(at_least_holds(G, PRICES, ONES, number, thing),
                                  right.at_least(G, PRICES, ONES, number, thing), (number, thing))


class WrongArguments(unittest.TestCase):
    def test_sequence(self):
        for function, rest in ((least_rate, ()), (greatest_rate, ()), (tight_arrows, ()), (judge_at_least, (0,)),
                               (at_least_holds, (0, 0))):
            with self.assertRaises(BadWeb):
                function(((1,),), (1, 2), (0,), *rest)
            with self.assertRaises(BadPrices):
                function(G, (1, 2), (0,), *rest)
            for times in ((1, 1, 0), (1, 1, -1), (1, 1), (1, 1, 1, 1), (1, 1, True), [1, 1, 1], None, (1, 1, "1")):
                with self.assertRaises(BadTimes) as caught:
                    function(G, PRICES, times, *rest)
                self.assertIs(caught.exception.thing, times)

    def test_bad_number(self):
        for number in ((3, 0), (3, -2), (3,), (3, 2, 1), [3, 2], (True, 2), (3, True), 3, None, "3/2", (), ((3, 2),),
                       ("3", 2), (3, None)):
            for function, rest in ((judge_at_least, ()), (at_least_holds, (("heights", (0, 1)),))):
                with self.assertRaises(BadNumber) as caught:
                    function(G, PRICES, ONES, number, *rest)
                self.assertIs(caught.exception.thing, number)


class Largest(unittest.TestCase):
    def test_many_times(self):
        source = random.Random(92)
        for _ in range(150):
            web = random_web(source, 8, 6)
            prices, times = random_row(source, web, -10 ** 6, 10 ** 6), random_row(source, web, 1, 12)
            rate = least_rate(web, prices, times)
            paper = judge_at_least(web, prices, times, rate)
            self.assertEqual(paper[0], "heights")
            self.assertTrue(right.at_least(web, prices, times, rate, paper))
            above = (rate[0] * 10 ** 4 + 1, rate[1] * 10 ** 4)
            paper = judge_at_least(web, prices, times, above)
            self.assertEqual(rate_of(web, prices, times, paper[1]), Fraction(*rate))
            self.assertTrue(set(paper[1]) <= set(tight_arrows(web, prices, times)))


if __name__ == "__main__":
    unittest.main()
