"""[3.4]: the polygon of two prices, and papers that a point lies in it or outside."""

import itertools
import math
import random
import unittest
from fractions import Fraction

from otherpace.errors import BadPoint, BadPrices, BadWeb
from otherpace.mixing import corners, judge_point, point_holds
from otherpace.prices import slope
from tests import plainly, right
from tests.samples import ANY_VALUES, G, LOOPS, TWO_STEPS, changed_once, random_row, random_web, random_webs

ONE, OTHER = (5, 2, 1), (0, 1, 0)
HOME, PAIR = ((0, 0, 0),), ((0, 1, 0), (1, 0, 0))
RING = ((0, 4, 0, 0), (0, 0, 4, 0), (0, 0, 0, 4), (4, 0, 0, 0))
FULL_FOUR = ((1,) * 4,) * 4
WEBS = [G, LOOPS, ((5,),), TWO_STEPS] + random_webs(131, 25, rooms=4, item=3, most_arrows=10)
# A square with points on its edges and within, by rounds of one arrow.
SQUARE = ((9,),)
SQUARE_ROWS = ((0, 0, 0, 2, 2, 2, 4, 4, 4), (0, 2, 4, 0, 2, 4, 0, 2, 4))


def points_of(web, one, other):
    """The points of all simple rounds."""
    laps = plainly.simple_rounds(web)
    return {tuple(Fraction(plainly.price(web, row, lap), len(lap)) for row in (one, other)) for lap in laps}


def turning(a, b, c):
    return (b[0] - a[0]) * (c[1] - a[1]) - (b[1] - a[1]) * (c[0] - a[0])


def is_between(place, some):
    """Whether a place is one of up to three points, or lies between them."""
    if len(some) == 1:
        return place == some[0]
    if len(some) == 2:
        a, b = some
        return turning(a, b, place) == 0 and all(min(x, y) <= z <= max(x, y) for x, y, z in zip(a, b, place))
    a, b, c = some
    signs = {(area > 0) - (area < 0) for area in (turning(a, b, place), turning(b, c, place), turning(c, a, place))}
    if turning(a, b, c) == 0:
        return any(is_between(place, pair) for pair in itertools.combinations(some, 2))
    return not {-1, 1} <= signs


def is_inside(place, points):
    """By C. Caratheodory: three of the points are always enough."""
    return any(is_between(place, some) for many in (1, 2, 3) for some in itertools.combinations(points, many))


def as_pair(place):
    return tuple((part.numerator, part.denominator) for part in place)


def rows(seed):
    source = random.Random(seed)
    for web in WEBS:
        for most in (1, 3, 9999):
            yield web, random_row(source, web, -most, most), random_row(source, web, -most, most)
        same = random_row(source, web, -9, 9)
        yield web, same, same
        yield web, same, tuple(3 - 2 * worth for worth in same)
        yield web, (4,) * len(same), (-1,) * len(same)


class Corners(unittest.TestCase):
    def test_examples(self):
        self.assertEqual(corners(G, ONE, OTHER), (((3, 2), (1, 2)), ((5, 1), (0, 1))))
        self.assertEqual(corners(SQUARE, *SQUARE_ROWS), (
            ((0, 1), (0, 1)), ((0, 1), (4, 1)), ((4, 1), (0, 1)), ((4, 1), (4, 1))))

    def test_single_points(self):
        for web in WEBS:
            many = len(plainly.arrows(web))
            self.assertEqual(corners(web, (6,) * many, (-9,) * many), (((6, 1), (-9, 1)),))
            heights = tuple(7 * room * room for room in range(len(web)))
            self.assertEqual(corners(web, slope(web, heights), (0,) * many), (((0, 1), (0, 1)),))

    def test_stretches(self):
        self.assertEqual(corners(((4,),), (1, 2, 4, 3), (2, 4, 8, 6)), (((1, 1), (2, 1)), ((4, 1), (8, 1))))
        self.assertEqual(corners(((4,),), (5, 5, 5, 5), (3, -1, 2, 0)), (((5, 1), (-1, 1)), ((5, 1), (3, 1))))
        self.assertEqual(corners(((4,),), (3, -1, 2, 0), (5, 5, 5, 5)), (((-1, 1), (5, 1)), ((3, 1), (5, 1))))

    def test_against_all_points(self):
        for web, one, other in rows(132):
            points = points_of(web, one, other)
            if len(points) > 12:
                continue
            expected = [place for place in points if not is_inside(place, points - {place})]
            self.assertEqual(corners(web, one, other), tuple(map(as_pair, sorted(expected))))

    def test_sorted_as_fractions(self):
        for web, one, other in rows(133):
            found = [tuple(Fraction(*part) for part in place) for place in corners(web, one, other)]
            self.assertEqual(found, sorted(found))
        # -1/2 comes before -1/3, though the pair (-1, 3) would come behind it.
        web = ((0, 0, 1), (1, 1, 0), (1, 1, 0))
        found = corners(web, (-1, 0, 9, 0, 0), (0, 0, 0, 0, 0))
        self.assertEqual(found, (((-1, 2), (0, 1)), ((9, 1), (0, 1))))

    def test_lowest_terms(self):
        for web, one, other in rows(134):
            for place in corners(web, one, other):
                for top, bottom in place:
                    self.assertEqual(math.gcd(top, bottom), 1)
                    self.assertGreaterEqual(bottom, 1)


def places_near(source, web, one, other):
    """Points at corners, between them, and just outside, also with common divisors."""
    found = [tuple(Fraction(*part) for part in place) for place in corners(web, one, other)]
    for _ in range(4):
        some = [source.choice(found) for _ in range(3)]
        parts = [source.randint(0, 3) for _ in some]
        parts[0] += not any(parts)
        middle = tuple(sum(part * place[at] for part, place in zip(parts, some)) / sum(parts) for at in (0, 1))
        near = Fraction(1, source.choice((1, 7, 9999)))
        for place in (middle, (middle[0] + near, middle[1]), (middle[0], middle[1] - near), some[0],
                      (some[0][0] - near, some[0][1] + near)):
            times = source.choice((1, 1, 4))
            yield tuple((times * top, times * bottom) for top, bottom in as_pair(place))


class Papers(unittest.TestCase):
    def test_example(self):
        point = ((8, 3), (1, 3))
        paper = ("mixed", ((HOME, 1), (PAIR, 1)))
        self.assertIs(point_holds(G, ONE, OTHER, point, paper), True)
        self.assertTrue(right.point(G, ONE, OTHER, point, judge_point(G, ONE, OTHER, point)))

    def test_judged(self):
        source = random.Random(135)
        seen = set()
        for web, one, other in rows(136):
            for point in places_near(source, web, one, other):
                paper = judge_point(web, one, other, point)
                seen.add(paper[0])
                self.assertTrue(right.point(web, one, other, point, paper), (web, one, other, point, paper))
                self.assertIs(point_holds(web, one, other, point, paper), True)
        self.assertEqual(seen, {"mixed", "outside"})

    def test_numbers_in_papers_are_in_lowest_terms(self):
        source = random.Random(137)
        for web, one, other in rows(138):
            point = ((source.randint(-9999, 9999), 6), (source.randint(-9999, 9999), 9999))
            paper = judge_point(web, one, other, point)
            if paper[0] == "outside":
                self.assertEqual(math.gcd(*paper[3]), 1)

    def test_square(self):
        for x, y, outside in ((0, 0, 0), (8, 8, 0), (4, 0, 0), (1, 7, 0), (0, 5, 0), (9, 0, 1), (-1, 3, 1), (3, -1, 1),
                              (5, 9, 1), (8, 9, 1), (9, 9, 1)):
            for times in (1, 6):
                point = ((x * times, 2 * times), (y * times, 2 * times))
                self.assertEqual(judge_point(SQUARE, *SQUARE_ROWS, point)[0], ("mixed", "outside")[outside])

    def test_parts_in_any_sequence_and_several_times(self):
        point = ((8, 3), (1, 3))
        for parts in (((HOME, 1), (PAIR, 1)), ((PAIR, 1), (HOME, 1)), ((PAIR, 4), (HOME, 4)),
                      ((HOME, 2), (PAIR, 3), (HOME, 1)), ((PAIR, 1), (PAIR, 1), (HOME, 2)),
                      ((HOME, 10 ** 29), (PAIR, 10 ** 29)), ((HOME, 1), (PAIR, 1)) * 30):
            self.assertIs(point_holds(G, ONE, OTHER, point, ("mixed", parts)), True, parts)
        for parts in (((HOME, 1), (PAIR, 2)), ((HOME, 1),), (), ((HOME, 0), (PAIR, 0)), ((HOME, -1), (PAIR, -1)),
                      ((HOME, True), (PAIR, 1)), [(HOME, 1), (PAIR, 1)], ([HOME, 1], (PAIR, 1)),
                      ((HOME, 1), (PAIR[::-1], 1)), ((HOME * 2, 1), (PAIR, 2)), ((HOME + PAIR, 1),),
                      ((HOME, 1), (PAIR * 2, 1)), ((HOME, 1, 1), (PAIR, 1)), ((HOME, 1), (PAIR,)),
                      ((HOME, 1), (PAIR, "1")), ((HOME, 2), (PAIR, 2), (PAIR, 0))):
            self.assertIs(point_holds(G, ONE, OTHER, point, ("mixed", parts)), False, parts)

    def test_outside_by_any_integers(self):
        # All rounds have at least -5 / 1 for minus the first price, for each arrow.
        point = ((11, 2), (1, 7))
        heights = judge_point(G, ONE, OTHER, ((6, 1), (0, 1)))[4]
        self.assertEqual(judge_point(G, ONE, OTHER, point)[0], "outside")
        found = []
        numbers = ((-5, 1), (-10, 2), (-15, 1), (-16, 3), (0, 1))
        for a, b, number in itertools.product(range(-3, 4), range(-3, 4), numbers):
            for rise in range(-5, 5):
                paper = ("outside", a, b, number, (0, rise))
                expected = right.point(G, ONE, OTHER, point, paper)
                self.assertIs(point_holds(G, ONE, OTHER, point, paper), expected)
                found.extend([paper] * expected)
        self.assertGreater(len(found), 10)
        self.assertEqual(len(heights), 2)

    def test_numbers_not_in_lowest_terms(self):
        # Heights count for the number as it stands in the paper.
        point = ((6, 1), (0, 1))
        for times in range(1, 5):
            for rise in range(-20, 1):
                paper = ("outside", -1, 0, (-5 * times, times), (0, rise))
                self.assertIs(point_holds(G, ONE, OTHER, point, paper), right.point(G, ONE, OTHER, point, paper))
        self.assertIs(point_holds(G, ONE, OTHER, point, ("outside", -1, 0, (-5, 1), (0, 3))), True)
        self.assertIs(point_holds(G, ONE, OTHER, point, ("outside", -1, 0, (-10, 2), (0, 6))), True)
        self.assertIs(point_holds(G, ONE, OTHER, point, ("outside", -1, 0, (-10, 2), (0, 9))), False)

    def test_on_the_edge_is_not_outside(self):
        point = ((5, 1), (0, 1))
        self.assertIs(point_holds(G, ONE, OTHER, point, ("outside", -1, 0, (-5, 1), (0, 3))), False)
        point = ((500001, 10 ** 5), (0, 1))
        self.assertIs(point_holds(G, ONE, OTHER, point, ("outside", -1, 0, (-5, 1), (0, 3))), True)

    def test_height_of_room_0(self):
        point = ((6, 1), (0, 1))
        for by in (-1, 1, 10 ** 29):
            self.assertIs(point_holds(G, ONE, OTHER, point, ("outside", -1, 0, (-5, 1), (by, 3 + by))), False)

    def test_values_of_all_kinds(self):
        for point in (((8, 3), (1, 3)), ((6, 1), (0, 1)), ((16, 6), (3, 9)), ((5, 1), (0, 1))):
            papers = (judge_point(G, ONE, OTHER, point), ("mixed", ((HOME, 1), (PAIR, 1))), ("mixed", ((HOME, 1),)),
                      ("outside", -1, 0, (-5, 1), (0, 3)), ("outside", 0, 0, (1, 1), (0, 0)))
            for paper in papers:
                for thing in (paper, list(paper), paper[:1], paper + (0,)) + tuple(changed_once(paper)) + ANY_VALUES:
                    self.assertIs(point_holds(G, ONE, OTHER, point, thing),
                                  right.point(G, ONE, OTHER, point, thing), (point, thing))


class WrongArguments(unittest.TestCase):
    def test_sequence(self):
        for thing in ((1, 2), (1, 2, 3, 4), (1, 2, True), [1, 2, 3], None, (1, 2, "3"), ()):
            for function, rest in ((corners, ()), (judge_point, (0,)), (point_holds, (0, 0))):
                with self.assertRaises(BadWeb) as caught:
                    function(thing, thing, thing, *rest)
                self.assertIs(caught.exception.thing, thing)
                for one, other in ((thing, OTHER), (ONE, thing), (thing, None)):
                    with self.assertRaises(BadPrices) as caught:
                        function(G, one, other, *rest)
                    self.assertIs(caught.exception.thing, thing)

    def test_bad_point(self):
        number = (1, 2)
        for thing in ((), (number,), (number,) * 3, [number, number], (number, [1, 2]), (number, (1, 0)),
                      (number, (1, -2)), ((1, 2, 3), number), ((True, 2), number), (number, (1, True)), (1, 2),
                      (number, 1), None, number, "1/2", (number, None), ((1,), number), (number, ("1", 2)),
                      {0: number, 1: number}):
            for function, rest in ((judge_point, ()), (point_holds, (("mixed", ((HOME, 1),)),))):
                with self.assertRaises(BadPoint) as caught:
                    function(G, ONE, OTHER, thing, *rest)
                self.assertIs(caught.exception.thing, thing)


class Largest(unittest.TestCase):
    def test_many_times(self):
        source = random.Random(139)
        webs = [RING, FULL_FOUR] + [random_web(source, 4, 4, most_arrows=16) for _ in range(20)]
        for web in webs:
            for _ in range(3):
                one, other = random_row(source, web, -9999, 9999), random_row(source, web, -9999, 9999)
                points = [tuple((source.randint(-9999, 9999), source.randint(1, 9999)) for _ in range(2)),
                          corners(web, one, other)[0], ((1, 9999), (-9998, 9997))]
                for point in points:
                    paper = judge_point(web, one, other, point)
                    self.assertTrue(right.point(web, one, other, point, paper))
                    self.assertIs(point_holds(web, one, other, point, paper), True)


if __name__ == "__main__":
    unittest.main()
