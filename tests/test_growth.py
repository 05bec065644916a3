"""[4.1], [4.2], [4.4] and [4.5]: the growth of a web against numbers, and its floors."""

import math
import random
import unittest
from fractions import Fraction

from otherpace.errors import BadNumber, BadWeb
from otherpace.growth import growth_floor, growth_holds, judge_growth
from otherpace.webs import renamed_web, turned_web
from tests import plainly, right
from tests.samples import ANY_VALUES, G, LOOPS, NO_WEBS, TWO_STEPS, changed_once, random_web, random_webs

FULL_FOUR = ((6,) * 4,) * 4
RING = ((0, 6, 0, 0), (0, 0, 6, 0), (0, 0, 0, 6), (6, 0, 0, 0))
SLOW_RING = ((0, 1, 0, 0), (0, 0, 1, 0), (0, 0, 0, 1), (2, 0, 0, 0))
NEARLY_APART = ((6, 6, 1, 0), (6, 6, 0, 0), (0, 0, 6, 6), (1, 0, 6, 5))
WEBS = [G, LOOPS, ((6,),), TWO_STEPS, FULL_FOUR, RING, SLOW_RING, NEARLY_APART, ((1, 2), (3, 4)), ((0, 1), (1, 1)),
        ((0, 1, 0), (0, 0, 1), (1, 1, 0)), ((1, 1, 0), (0, 0, 1), (1, 1, 0))] + random_webs(141, 60, rooms=4, item=6)


def bounds(web):
    """Fractions below and above the growth, very near: by a great power of the table and one."""
    rooms = range(len(web))
    table = tuple(tuple(web[i][j] + int(i == j) for j in rooms) for i in rooms)
    for _ in range(11):
        table = plainly.product(table, table)
    row = [sum(line) for line in table]
    rates = [Fraction(after, before) for after, before in zip(right.led(web, row), row)]
    return min(rates), max(rates)


class Floors(unittest.TestCase):
    def test_examples(self):
        self.assertEqual(growth_floor(G, 0), 1)
        self.assertEqual(growth_floor(G, 3), 12)

    def test_roots(self):
        for bits in (0, 1, 2, 7, 39, 40):
            self.assertEqual(growth_floor(G, bits), ((1 << bits) + math.isqrt(5 << 2 * bits)) // 2)
            for item in range(1, 7):
                if item > 1:
                    self.assertEqual(growth_floor(((item,),), bits), item << bits)
                    self.assertEqual(growth_floor(((0, item), (1, 0)), bits), math.isqrt(item << 2 * bits))
                self.assertEqual(growth_floor(((0, 2), (item, 0)), bits), math.isqrt(2 * item << 2 * bits))
            self.assertEqual(growth_floor(SLOW_RING, bits), math.isqrt(math.isqrt(2 << 4 * bits)))
            self.assertEqual(growth_floor(FULL_FOUR, bits), 24 << bits)
            self.assertEqual(growth_floor(RING, bits), 6 << bits)

    def test_bounds(self):
        for web in WEBS:
            low, high = bounds(web)
            for bits in (0, 1, 5, 10, 40):
                floor = growth_floor(web, bits)
                self.assertLessEqual(Fraction(floor, 1 << bits), high)
                self.assertGreater(Fraction(floor + 1, 1 << bits), low)

    def test_against_numbers(self):
        for web in WEBS:
            for bits in range(0, 41, 5):
                floor = growth_floor(web, bits)
                self.assertIn(judge_growth(web, (floor, 1 << bits))[0], ("above", "equal"))
                self.assertEqual(judge_growth(web, (floor + 1, 1 << bits))[0], "below")

    def test_bad_bits(self):
        for thing in (-1, -(10 ** 39), True, False, None, "3", (3,), [3], {}):
            with self.assertRaises(BadNumber) as caught:
                growth_floor(G, thing)
            self.assertIs(caught.exception.thing, thing)
            with self.assertRaises(BadWeb):
                growth_floor(((1,),), thing)


def numbers_near(web):
    """Numbers around the growth with at most 4 digits, also with common divisors."""
    for bottom in (1, 2, 7, 60, 300, 9999):
        middle = (growth_floor(web, 40) * bottom) >> 40
        for top in range(middle - 1, middle + 3):
            if abs(top) < 10 ** 4:
                yield (top, bottom)
                if bottom < 1000:
                    yield (2 * top, 2 * bottom)
    yield from ((0, 1), (-1, 1), (-9999, 1), (9999, 1), (1, 9999), (0, 7), (-9999, 9999))


class Papers(unittest.TestCase):
    def test_examples(self):
        self.assertIs(growth_holds(G, (2, 1), ("below", (2, 1))), True)
        self.assertIs(growth_holds(G, (8, 5), ("above", (8, 5))), True)
        self.assertTrue(right.growth(G, (2, 1), judge_growth(G, (2, 1))))
        self.assertEqual(judge_growth(LOOPS, (2, 1)), ("equal", (1,)))

    def test_judged(self):
        for web in WEBS:
            low, high = bounds(web)
            for number in numbers_near(web):
                paper = judge_growth(web, number)
                self.assertTrue(right.growth(web, number, paper), (web, number, paper))
                self.assertIs(growth_holds(web, number, paper), True)
                if Fraction(*number) < low:
                    self.assertEqual(paper[0], "above")
                elif Fraction(*number) > high:
                    self.assertEqual(paper[0], "below")

    def test_integers(self):
        for web, growth in (((((2, 1), (1, 2))), 3), (FULL_FOUR, 24), (RING, 6), (((1, 2), (3, 2)), 4), (((6,),), 6),
                            (((0, 4), (1, 0)), 2), (((0, 2), (2, 0)), 2)):
            for times in (1, 2, 400):
                paper = judge_growth(web, (growth * times, times))
                self.assertEqual(paper[0], "equal")
                self.assertTrue(right.growth(web, (growth, 1), paper))
                self.assertEqual(judge_growth(web, (growth * times + 1, times))[0], "below")
                self.assertEqual(judge_growth(web, (growth * times - 1, times))[0], "above")

    def test_no_fraction(self):
        for top, bottom in ((1, 1), (3, 2), (8, 5), (21, 13), (987, 610), (4181, 2584)):
            kind = "above" if top * top < top * bottom + bottom ** 2 else "below"
            self.assertEqual(judge_growth(G, (top, bottom))[0], kind)
        for number in ((4181, 2584), (6765, 4181)):
            self.assertTrue(right.growth(G, number, judge_growth(G, number)))

    def test_rows_that_show_too_little(self):
        # Equality in all rooms shows neither less nor more; one room that is less is enough.
        for kind in ("below", "above"):
            self.assertIs(growth_holds(LOOPS, (2, 1), (kind, (1,))), False)
            self.assertIs(growth_holds(((2, 1), (1, 2)), (3, 1), (kind, (5, 5))), False)
        self.assertIs(growth_holds(((2, 1), (1, 2)), (3, 1), ("equal", (5, 5))), True)
        self.assertIs(growth_holds(((2, 1), (1, 2)), (3, 1), ("equal", (5, 4))), False)
        self.assertIs(growth_holds(G, (2, 1), ("below", (1, 1))), True)
        self.assertIs(growth_holds(G, (1, 1), ("above", (1, 1))), True)
        self.assertIs(growth_holds(G, (2, 1), ("equal", (1, 1))), False)
        self.assertIs(growth_holds(G, (3, 2), ("below", (2, 1))), False)
        self.assertIs(growth_holds(G, (3, 2), ("above", (2, 1))), True)
        self.assertIs(growth_holds(G, (8, 5), ("above", (2, 1))), False)

    def test_common_divisors(self):
        for times in (1, 2, 10 ** 29):
            self.assertIs(growth_holds(G, (8 * times, 5 * times), ("above", (8, 5))), True)
            self.assertIs(growth_holds(G, (8, 5), ("above", (8 * times, 5 * times))), True)
            self.assertIs(growth_holds(G, (13 * times, 8 * times), ("below", (8, 5))), True)

    def test_zeros_and_bools_in_rows(self):
        for kind, number in (("below", (2, 1)), ("above", (1, 1))):
            self.assertIs(growth_holds(G, number, (kind, (1, 1))), True)
            for row in ((1, 0), (0, 1), (0, 0), (True, 1), (1, True), (-1, -1), (1,), (1, 1, 1), [1, 1], (1, "1"),
                        None):
                self.assertIs(growth_holds(G, number, (kind, row)), False)
        self.assertIs(growth_holds(LOOPS, (2, 1), ("equal", (0,))), False)
        self.assertIs(growth_holds(LOOPS, (2, 1), ("equal", (True,))), False)
        self.assertIs(growth_holds(LOOPS, (2, 1), ("equal", (-1,))), False)

    def test_small_rows(self):
        for web in (G, LOOPS, TWO_STEPS, ((2, 1), (1, 2)), ((1, 2), (1, 1))):
            for number in ((1, 1), (3, 2), (8, 5), (2, 1), (6, 4), (3, 1), (7, 3), (5, 2)):
                for first in range(4):
                    rows = [(first,)] if len(web) == 1 else [(first, second) for second in range(4)]
                    for row in rows:
                        for paper in (("below", row), ("above", row), ("equal", row)):
                            self.assertIs(growth_holds(web, number, paper), right.growth(web, number, paper))

    def test_values_of_all_kinds(self):
        for web, number in ((G, (2, 1)), (G, (8, 5)), (LOOPS, (2, 1)), (((2, 1), (1, 2)), (6, 2))):
            for paper in (judge_growth(web, number), ("below", (2, 1)), ("above", (8, 5)), ("equal", (3, 3))):
                for thing in (paper, list(paper), paper[:1], paper + (0,)) + tuple(changed_once(paper)) + ANY_VALUES:
                    self.assertIs(growth_holds(web, number, thing), right.growth(web, number, thing), (number, thing))

    def test_bad_number(self):
        for number in ((3, 0), (3, -2), (3,), (3, 2, 1), [3, 2], (True, 2), (3, True), 3, None, "3/2", (), ((3, 2),)):
            for function, rest in ((judge_growth, ()), (growth_holds, (("below", (1, 1)),))):
                with self.assertRaises(BadNumber) as caught:
                    function(G, number, *rest)
                self.assertIs(caught.exception.thing, number)
                for web in NO_WEBS[:2]:
                    with self.assertRaises(BadWeb) as caught:
                        function(web, number, *rest)
                    self.assertIs(caught.exception.thing, web)


class WhatChangesIt(unittest.TestCase):
    def test_renamed_and_turned(self):
        for web in WEBS:
            floor = growth_floor(web, 40)
            self.assertEqual(growth_floor(turned_web(web), 40), floor)
            self.assertEqual(growth_floor(renamed_web(web, tuple(reversed(range(len(web))))), 40), floor)

    def test_more_arrows(self):
        for web in WEBS:
            for i in range(len(web)):
                row = web[i][:-1] + (web[i][-1] + 1,)
                self.assertGreater(growth_floor(web[:i] + (row,) + web[i + 1:], 20), growth_floor(web, 20))

    def test_numbers_of_arrows(self):
        for web in WEBS:
            least, greatest = min(map(sum, web)), max(map(sum, web))
            kinds = (judge_growth(web, (least, 1))[0], judge_growth(web, (greatest, 1))[0])
            self.assertEqual(kinds, ("equal", "equal") if least == greatest else ("above", "below"))


class Largest(unittest.TestCase):
    def test_many_times(self):
        source = random.Random(142)
        for _ in range(150):
            web = random_web(source, 4, 6)
            number = (source.randint(1, 9999), source.randint(1, 999))
            for _ in range(2):
                paper = judge_growth(web, number)
                self.assertTrue(right.growth(web, number, paper))
                self.assertLess(max(paper[1]), 10 ** 100)
                number = (min(9999, (growth_floor(web, 40) * 399) >> 40), 399)
            self.assertGreater(growth_floor(web, 40), 1 << 40)


if __name__ == "__main__":
    unittest.main()
