"""[5.2]: bounds from which on one web has at most as many told rounds of each length."""

import unittest

from otherpace.within import is_bound, judge_within
from tests import right
from tests.samples import ANY_VALUES, G, LOOPS, TWO_STEPS, changed_once
from tests.test_within import FITTING

BOUND = (8, (3, 2), (4, 3), (2, 1), (1,), (2, 1), (1,), 1)
PLACES = {"length": 0, "a": 1, "v": 2, "b": 3, "w": 4, "c": 5, "u": 6, "s": 7}


def with_parts(bound, **parts):
    found = list(bound)
    for name, part in parts.items():
        found[PLACES[name]] = part
    return tuple(found)


class Bounds(unittest.TestCase):
    def check(self, one, other, bound, expected):
        self.assertIs(right.bound(one, other, bound), expected, bound)
        self.assertIs(is_bound(one, other, bound), expected, bound)

    def test_least_length(self):
        self.check(TWO_STEPS, LOOPS, BOUND, True)
        for length in range(1, 8):
            self.check(TWO_STEPS, LOOPS, with_parts(BOUND, length=length), False)
        for length in (9, 10, 77, 4000):
            self.check(TWO_STEPS, LOOPS, with_parts(BOUND, length=length), True)
        for length in (4001, 4002, 10 ** 9, 10 ** 39, 0, -8, True, None, "8", (8,)):
            self.check(TWO_STEPS, LOOPS, with_parts(BOUND, length=length), False)

    def test_told_bounds(self):
        for one, other in FITTING[::2]:
            paper = judge_within(one, other)
            if paper[0] != "within":
                continue
            bound = paper[1]
            self.check(one, other, bound, True)
            self.check(one, other, with_parts(bound, length=bound[0] + 1), True)
            self.check(one, other, with_parts(bound, length=bound[0] + 100), True)
            for length in (bound[0] - 1, bound[0] - 2, bound[7] - 1):
                shorter = with_parts(bound, length=length)
                self.assertIs(is_bound(one, other, shorter), right.bound(one, other, shorter))

    def test_numbers_with_a_common_divisor(self):
        for name in "abc":
            for times in (2, 3, 10 ** 30):
                top, bottom = BOUND[PLACES[name]]
                self.check(TWO_STEPS, LOOPS, with_parts(BOUND, **{name: (top * times, bottom * times)}), True)

    def test_rows(self):
        for name in "vwu":
            row = BOUND[PLACES[name]]
            for times in (2, 10 ** 399):
                self.check(TWO_STEPS, LOOPS, with_parts(BOUND, **{name: tuple(times * item for item in row)}), True)
            for wrong in (tuple(0 for _ in row), tuple(-item for item in row), row + (1,), row[:-1], list(row),
                          tuple(True for _ in row), None, 3):
                self.check(TWO_STEPS, LOOPS, with_parts(BOUND, **{name: wrong}), False)
        self.check(TWO_STEPS, LOOPS, with_parts(BOUND, v=(3, 2)), True)
        self.check(TWO_STEPS, LOOPS, with_parts(BOUND, v=(4, 2)), False)
        self.check(TWO_STEPS, LOOPS, with_parts(BOUND, v=(2, 2)), False)

    def test_one_condition_broken(self):
        # a shows less than the growth, b more, c less; a above b.
        for parts in ({"a": (7, 5), "v": (10, 7)}, {"b": (9, 4)}, {"c": (7, 4)}, {"a": (9, 4), "length": 4000}):
            self.check(TWO_STEPS, LOOPS, with_parts(BOUND, **parts), False)
        for b in ((0, 1), (-2, 1), (-1, 1), (-2, 3), (-(10 ** 39), 1), (-3, 2), (-17, 5)):
            for length in (8, 9, 400):
                self.check(TWO_STEPS, LOOPS, with_parts(BOUND, b=b, length=length), False)
            self.check(TWO_STEPS, LOOPS, with_parts(BOUND, a=b, length=400), False)
            self.check(TWO_STEPS, LOOPS, with_parts(BOUND, c=b, length=400), False)
        # Equal numbers: the condition about the powers of a and b can never be met.
        self.check(TWO_STEPS, LOOPS, with_parts(BOUND, a=(2, 1), length=4000), False)
        # (L + 2) c is at most L b^2 only for c below b^2.
        self.check(TWO_STEPS, LOOPS, with_parts(BOUND, c=(4, 1), length=4000), False)
        self.check(TWO_STEPS, LOOPS, with_parts(BOUND, c=(7, 2), length=4000), True)
        self.check(TWO_STEPS, LOOPS, with_parts(BOUND, c=(3999, 1000), length=4000), False)

    def test_l_plus_2_times_c(self):
        # With few rooms and a great s the powers are met where this is not, and the other way round.
        for length in range(1, 60):
            for c in ((2, 1), (5, 2), (3, 1), (7, 2), (15, 4)):
                bound = with_parts(BOUND, length=length, c=c)
                self.assertIs(is_bound(TWO_STEPS, LOOPS, bound), right.bound(TWO_STEPS, LOOPS, bound))

    def test_each_condition_decides_somewhere(self):
        # Growth 2 and 12: all lengths around the least one, for several numbers in the bound.
        other = ((4,) * 3,) * 3
        for a in ((2, 1), (3, 1), (8, 1), (11, 1), (23, 2)):
            for c in ((12, 1), (13, 1), (100, 1), (140, 1)):
                for exponent in (1, 2, 7, 40):
                    found = []
                    for length in list(range(1, 130, 2)) + [400, 1000]:
                        bound = (length, a, (1,), (12, 1), (1, 1, 1), c, (5, 5, 5), exponent)
                        found.append(right.bound(LOOPS, other, bound))
                        self.assertIs(is_bound(LOOPS, other, bound), found[-1], bound)
                    self.assertEqual(found, sorted(found))

    def test_exponents(self):
        for exponent in (0, -1, 41, 10 ** 39, True, None, "1", (1,)):
            self.check(TWO_STEPS, LOOPS, with_parts(BOUND, s=exponent, length=400), False)
        for exponent in range(1, 41):
            self.check(TWO_STEPS, LOOPS, with_parts(BOUND, s=exponent, length=400), True)
        # The length is at least the exponent.
        self.check(TWO_STEPS, ((4,),), (9, (3, 2), (4, 3), (4, 1), (1,), (4, 1), (1,), 10), False)
        # G has a 0 in its first power, and none in the second one; the ring with a short cut needs 5.
        one = ((0, 1, 0), (0, 0, 1), (1, 1, 0))
        for exponent in range(1, 9):
            bound = (400, (4, 3), (9, 12, 16), (3, 2), (3, 2), (5, 3), (5, 3), exponent)
            self.check(one, G, bound, exponent >= 2)
        ring = ((0, 4, 0), (0, 0, 4), (4, 4, 0))
        told = judge_within(((0, 1, 0), (0, 0, 1), (1, 1, 0)), ring)[1]
        for exponent in range(1, 9):
            self.check(((0, 1, 0), (0, 0, 1), (1, 1, 0)), ring, with_parts(told, s=exponent, length=400), exponent >= 5)

    def test_long_numbers(self):
        for one, other in FITTING[:15]:
            paper = judge_within(one, other)
            if paper[0] == "within":
                bound = list(paper[1])
                for name, sign in (("a", 1), ("b", -1), ("c", 1)):
                    top, bottom = bound[PLACES[name]]
                    scale = 10 ** 39 // max(top, bottom)
                    bound[PLACES[name]] = (top * scale + sign, bottom * scale)
                bound[0] = 1000
                self.check(one, other, tuple(bound), True)

    def test_values_of_all_kinds(self):
        for one, other, bound in ((TWO_STEPS, LOOPS, BOUND), (G, LOOPS, judge_within(G, LOOPS)[1])):
            things = (bound, list(bound), bound[:7], bound + (1,)) + tuple(changed_once(bound)) + ANY_VALUES
            for thing in things:
                self.assertIs(is_bound(one, other, thing), right.bound(one, other, thing), thing)


if __name__ == "__main__":
    unittest.main()
