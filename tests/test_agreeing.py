"""[2.2] and [2.4]: papers that two price rows ask the same of every round, exactly or modulo m."""

import random
import unittest

from otherpace.errors import BadNumber, BadPrices, BadWeb
from otherpace.prices import agree_holds, judge_agree, judge_modulo, modulo_holds, price, slope
from otherpace.walks import is_round
from tests import plainly, right
from tests.samples import (
    ANY_VALUES, EIGHT, G, LONG_RING, LOOPS, TWO_STEPS, changed_once, random_round, random_row, random_web, random_webs)

PERIODIC = ((0, 2, 0, 0), (0, 0, 1, 2), (1, 0, 0, 0), (2, 0, 0, 0))
WEBS = [G, LOOPS, ((4,),), TWO_STEPS, LONG_RING, EIGHT, PERIODIC] + random_webs(61, 25)


def plus(one, other):
    return tuple(x + y for x, y in zip(one, other))


def changed_by(row, at, by):
    return row[:at] + (row[at] + by,) + row[at + 1:]


def agreeing(seed, most=10 ** 6):
    """Webs with pairs of rows that differ by a slope, which is returned with its heights."""
    source = random.Random(seed)
    for web in WEBS:
        row = random_row(source, web, -most, most)
        heights = (0,) + tuple(source.randint(-most, most) for _ in web[1:])
        yield web, plus(row, slope(web, heights)), row, heights


class Agree(unittest.TestCase):
    def test_examples(self):
        self.assertEqual(judge_agree(G, (5, 2, 1), (5, 0, 3)), ("heights", (0, 2)))
        paper = judge_agree(G, (5, 2, 1), (5, 2, 2))
        self.assertTrue(right.agree(G, (5, 2, 1), (5, 2, 2), 0, paper))
        self.assertIs(agree_holds(G, (5, 2, 1), (5, 2, 2), ("round", ((0, 1, 0), (1, 0, 0)))), True)

    def test_heights(self):
        for web, one, other, heights in agreeing(62):
            self.assertEqual(judge_agree(web, one, other), ("heights", heights))
            self.assertEqual(judge_agree(web, one, one), ("heights", (0,) * len(web)))
            self.assertIs(agree_holds(web, one, other, ("heights", heights)), True)

    def test_one_price_alone(self):
        for web, one, other, heights in agreeing(63):
            for at in range(len(one)):
                for by in (1, -10 ** 6):
                    changed = changed_by(one, at, by)
                    kind, lap = judge_agree(web, changed, other)
                    self.assertEqual(kind, "round")
                    self.assertTrue(is_round(web, lap))
                    self.assertNotEqual(price(web, changed, lap), price(web, other, lap))
                    self.assertIs(agree_holds(web, changed, other, (kind, lap)), True)
                    self.assertIs(agree_holds(web, changed, other, ("heights", heights)), False)
                    self.assertIs(agree_holds(web, one, other, (kind, lap)), False)

    def test_all_rows_of_small_prices(self):
        source = random.Random(64)
        for web in (G, LOOPS, TWO_STEPS, PERIODIC):
            for _ in range(60):
                one, other = random_row(source, web, 0, 1), random_row(source, web, 0, 1)
                laps = plainly.simple_rounds(web)
                same = all(plainly.price(web, one, lap) == plainly.price(web, other, lap) for lap in laps)
                paper = judge_agree(web, one, other)
                self.assertEqual(paper[0], "heights" if same else "round")
                self.assertTrue(right.agree(web, one, other, 0, paper))

    def test_heights_that_do_not_show_it(self):
        for web, one, other, heights in agreeing(65, most=99):
            self.assertIs(agree_holds(web, one, other, ("heights", tuple(item + 1 for item in heights))), False)
            for at in range(len(web)):
                self.assertIs(agree_holds(web, one, other, ("heights", changed_by(heights, at, 1))), False)
            for wrong in (heights[:-1], heights + (0,), list(heights), tuple(map(str, heights)),
                          (False,) + heights[1:], None, heights[0], (heights,)):
                self.assertIs(agree_holds(web, one, other, ("heights", wrong)), False)

    def test_rounds_from_any_arrow_and_not_plain(self):
        lap = ((0, 0, 0), (0, 1, 0), (1, 0, 0))
        for times in (1, 2, 7):
            for at in range(3):
                turn = (lap[at:] + lap[:at]) * times
                self.assertIs(agree_holds(G, (5, 2, 1), (5, 2, 2), ("round", turn)), True)
                self.assertIs(agree_holds(G, (5, 2, 1), (5, 0, 3), ("round", turn)), False)
        self.assertIs(agree_holds(G, (5, 2, 1), (5, 2, 2), ("round", lap[:2])), False)
        self.assertIs(agree_holds(G, (5, 2, 1), (5, 2, 2), ("round", lap[:1])), False)
        self.assertIs(agree_holds(G, (5, 2, 1), (5, 2, 2), ("round", ())), False)

    def test_values_of_all_kinds(self):
        for other in ((5, 0, 3), (5, 2, 2), (5, 2, 1), (6, 2, 1)):
            for paper in (("heights", (0, 2)), ("round", ((0, 1, 0), (1, 0, 0))), ("heights", (0, 0)),
                          ("round", ((0, 0, 0), (0, 0, 0), (0, 1, 0), (1, 0, 0)))):
                for thing in (paper, list(paper), paper[:1], paper + (0,)) + tuple(changed_once(paper)) + ANY_VALUES:
                    self.assertIs(agree_holds(G, (5, 2, 1), other, thing),
                                  right.agree(G, (5, 2, 1), other, 0, thing), thing)


class Modulo(unittest.TestCase):
    def test_examples(self):
        self.assertEqual(judge_modulo(G, (5, 2, 1), (1, 0, 1), 2), ("heights", (0, 0)))

    def test_heights(self):
        source = random.Random(66)
        for web, one, other, heights in agreeing(67):
            for m in (1, 2, 3, 12, 10 ** 6, 999983):
                moved = plus(one, tuple(m * source.randint(-5, 5) for _ in one))
                expected = ("heights", tuple(height % m for height in heights))
                self.assertEqual(judge_modulo(web, moved, other, m), expected)
                self.assertIs(modulo_holds(web, moved, other, m, expected), True)

    def test_m_of_1(self):
        source = random.Random(68)
        for web in WEBS:
            one, other = random_row(source, web, -99, 99), random_row(source, web, -99, 99)
            self.assertEqual(judge_modulo(web, one, other, 1), ("heights", (0,) * len(web)))
            self.assertIs(modulo_holds(web, one, other, 1, ("round", random_round(source, web, 20))), False)

    def test_one_price_alone(self):
        for web, one, other, heights in agreeing(69):
            for m, by in ((2, 1), (12, 8), (10 ** 6, 5 * 10 ** 5), (10 ** 6, -1)):
                for at in range(0, len(one), 3):
                    changed = changed_by(one, at, by)
                    kind, lap = judge_modulo(web, changed, other, m)
                    self.assertEqual(kind, "round")
                    self.assertTrue(is_round(web, lap))
                    self.assertNotEqual((price(web, changed, lap) - price(web, other, lap)) % m, 0)
                    self.assertIs(modulo_holds(web, changed, other, m, (kind, lap)), True)
                    self.assertIs(modulo_holds(web, one, other, m, (kind, lap)), False)
                    self.assertEqual(judge_modulo(web, changed_by(one, at, 3 * m), other, m)[0], "heights")

    def test_against_all_simple_rounds(self):
        source = random.Random(70)
        for web in (G, LOOPS, TWO_STEPS, PERIODIC):
            laps = plainly.simple_rounds(web)
            for _ in range(80):
                m = source.randint(1, 4)
                one, other = random_row(source, web, -3, 3), random_row(source, web, -3, 3)
                same = all((plainly.price(web, one, lap) - plainly.price(web, other, lap)) % m == 0 for lap in laps)
                paper = judge_modulo(web, one, other, m)
                self.assertEqual(paper[0], "heights" if same else "round")
                self.assertTrue(right.agree(web, one, other, m, paper))
                self.assertIs(modulo_holds(web, one, other, m, paper), True)

    def test_heights_from_0_to_m_less_1(self):
        one, other = (5, 2, 1), (5, 0, 3)
        for m in (1, 2, 3, 4, 5):
            for room_0 in (-m, -1, 0, 1, m):
                for room_1 in range(-2 * m, 2 * m + 1):
                    holds = room_0 == 0 and room_1 == 2 % m
                    self.assertIs(modulo_holds(G, one, other, m, ("heights", (room_0, room_1))), holds)

    def test_values_of_all_kinds(self):
        for other, m in (((1, 0, 1), 2), ((5, 0, 3), 5), ((5, 2, 2), 10 ** 6)):
            for paper in (("heights", (0, 0)), ("heights", (0, 2)), ("round", ((0, 1, 0), (1, 0, 0)) * 2)):
                for thing in (paper, list(paper), paper[:1], paper + (0,)) + tuple(changed_once(paper)) + ANY_VALUES:
                    self.assertIs(modulo_holds(G, (5, 2, 1), other, m, thing),
                                  right.agree(G, (5, 2, 1), other, m, thing), thing)

    def test_bad_number(self):
        for thing in (0, -1, -(10 ** 39), True, False, None, "2", (2,), [2], (2, 1)):
            for function, rest in ((judge_modulo, ()), (modulo_holds, (("heights", (0, 0)),))):
                with self.assertRaises(BadNumber) as caught:
                    function(G, (5, 2, 1), (1, 0, 1), thing, *rest)
                self.assertIs(caught.exception.thing, thing)
                with self.assertRaises(BadPrices) as caught:
                    function(G, (5, 2, 1), thing, thing, *rest)
                self.assertIs(caught.exception.thing, thing)
                with self.assertRaises(BadWeb):
                    function(((1,),), (5,), thing, thing, *rest)


class Largest(unittest.TestCase):
    def test_many_times(self):
        source = random.Random(71)
        for _ in range(150):
            web = random_web(source, 8, 6)
            one, other = random_row(source, web, -10 ** 6, 10 ** 6), random_row(source, web, -10 ** 6, 10 ** 6)
            for m in (10 ** 6, 2):
                paper = judge_modulo(web, one, other, m)
                self.assertIs(modulo_holds(web, one, other, m, paper), True)
            self.assertIs(agree_holds(web, one, other, judge_agree(web, one, other)), True)


if __name__ == "__main__":
    unittest.main()
