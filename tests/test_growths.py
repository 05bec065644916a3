"""[4.3]: papers for the growth of two webs."""

import random
import unittest
from fractions import Fraction

from otherpace.errors import BadWeb
from otherpace.growth import growth_floor, growths_hold, judge_growths
from otherpace.numbers import bottom_of
from otherpace.webs import renamed_web, turned_web
from tests import plainly, right
from tests.samples import ANY_VALUES, G, LOOPS, NO_WEBS, TWO_STEPS, changed_once, random_web, random_webs
from tests.test_growth import FULL_FOUR, NEARLY_APART, RING, SLOW_RING

THREE = ((1, 1, 0), (0, 0, 1), (1, 1, 0))
# Their growths are about 5.236 and 6.193, and 5 and 6 are roots of their polynomials, too.
CLOSE_TO_5 = ((5, 0, 1, 0), (0, 5, 1, 0), (1, 0, 0, 1), (0, 1, 0, 1))
CLOSE_TO_6 = ((6, 0, 1, 0), (0, 6, 0, 1), (1, 0, 0, 1), (0, 1, 1, 0))
SAME = (
    (G, G), (G, THREE), (LOOPS, ((1, 1), (1, 1))), (((6,),), RING), (((3,),), ((2, 1), (1, 2))),
    (((3,),), ((1, 2, 0), (0, 1, 2), (2, 0, 1))), (FULL_FOUR, ((6, 6, 12), (6, 6, 12), (6, 6, 12))),
    # The roots of 2, with periods of 2 and 4, and the golden number with another root beside it.
    (TWO_STEPS, ((0, 1), (2, 0))), (TWO_STEPS, ((0, 1, 1), (1, 0, 0), (1, 0, 0))),
    (TWO_STEPS, ((0, 1, 0, 1), (1, 0, 0, 0), (0, 1, 0, 1), (0, 0, 1, 0))),
    (((0, 4), (1, 0)), LOOPS), (CLOSE_TO_5, ((5, 1), (1, 1))), (CLOSE_TO_6, ((6, 1), (1, 1))),
    (((5, 0, 1, 1), (0, 5, 0, 2), (1, 0, 1, 2), (0, 1, 2, 1)), ((5, 2), (1, 3))), (G, ((0, 1, 1), (1, 0, 0), (1, 1, 0))),
    (((1, 2), (1, 1)), ((1, 0, 1), (1, 1, 1), (0, 2, 0))),
)


def split(source, web):
    """A web in which the arrows of one room are parted among two: it has the same growth."""
    while True:
        room = source.randrange(len(web))
        part = tuple(source.randint(0, item) for item in web[room])
        rest = tuple(x - y for x, y in zip(web[room], part))
        if sum(web[room]) < 2:
            continue
        rows = [rest if i == room else row for i, row in enumerate(web)] + [part]
        table = tuple(row + (row[room],) for row in rows)
        if plainly.is_web(table):
            return table


def pairs_with_the_same_growth():
    yield from SAME
    source = random.Random(151)
    for web in random_webs(152, 60, rooms=3, item=6):
        parted = split(source, web)
        yield web, parted
        yield turned_web(parted), web
        yield parted, split(source, parted) if len(parted) < 4 else turned_web(parted)
    for web in (NEARLY_APART, RING, SLOW_RING):
        yield web, turned_web(web)
        yield web, renamed_web(web, (2, 0, 3, 1))


class Same(unittest.TestCase):
    def test_examples(self):
        self.assertIs(growths_hold(G, THREE, ("equal", ((1, 1, 0), (0, 0, 1)))), True)
        self.assertTrue(right.growths(G, THREE, judge_growths(G, THREE)))

    def test_judged(self):
        for one, other in pairs_with_the_same_growth():
            for first, second in ((one, other), (other, one)):
                paper = judge_growths(first, second)
                self.assertEqual(growth_floor(first, 40), growth_floor(second, 40))
                self.assertEqual(paper[0], "equal", (first, second))
                self.assertTrue(right.growths(first, second, paper), (first, second, paper))
                self.assertIs(growths_hold(first, second, paper), True)
                self.assertLess(max(map(max, paper[1])), 10 ** 1000)

    def test_equal_bottoms(self):
        for one, other in ((((1, 6), (1, 0)), ((0, 2), (3, 1))), (((5,),), ((1,) * 5,) * 5)):
            self.assertEqual(bottom_of(one), bottom_of(other))
            self.assertEqual(judge_growths(one, other)[0], "equal")

    def test_tables_that_fit_or_not(self):
        table = ((1, 1, 0), (0, 0, 1))
        for times in (1, 2, 10 ** 29):
            multiple = tuple(tuple(times * item for item in row) for row in table)
            self.assertIs(growths_hold(G, THREE, ("equal", multiple)), True)
        # Tables with zeros among their items, other ones than judge_growths would make.
        self.assertIs(growths_hold(LOOPS, ((0, 2), (2, 0)), ("equal", ((1, 1),))), True)
        self.assertIs(growths_hold(LOOPS, ((0, 2), (2, 0)), ("equal", ((1, 2),))), False)
        self.assertIs(growths_hold(G, G, ("equal", ((1, 0), (0, 1)))), True)
        self.assertIs(growths_hold(G, G, ("equal", ((1, 1), (1, 0)))), True)
        self.assertIs(growths_hold(G, G, ("equal", ((0, 1), (1, -1)))), False)
        for wrong in (((0, 0, 0), (0, 0, 0)), table[:1], table + ((0, 0, 0),), ((1, 1), (0, 0)), ((1, 1, 0, 0),) * 2,
                      ((1, 1, 0), (0, 0, True)), ((1, 1, False), (0, 0, 1)), list(table), tuple(map(list, table)),
                      ((1, 1, 0), (0, 0, 2)), ((-1, -1, 0), (0, 0, -1)), None, (), ((), ()), ((1, 1, 0), "001"), 1):
            self.assertIs(growths_hold(G, THREE, ("equal", wrong)), False, wrong)
        self.assertIs(growths_hold(THREE, G, ("equal", table)), False)

    def test_no_other_kind(self):
        for number, row, other_row in (((2, 1), (1,), (1, 1)), ((4, 2), (5,), (7, 7)), ((2, 1), (1,), (1, 2))):
            for kind in ("less", "more"):
                self.assertIs(growths_hold(LOOPS, ((1, 1), (1, 1)), (kind, number, row, other_row)), False)


class Unlike(unittest.TestCase):
    def test_examples(self):
        self.assertIs(growths_hold(G, LOOPS, ("less", (2, 1), (2, 1), (1,))), True)
        self.assertIs(growths_hold(LOOPS, G, ("more", (2, 1), (1,), (2, 1))), True)
        self.assertTrue(right.growths(G, LOOPS, judge_growths(G, LOOPS)))

    def test_judged(self):
        source = random.Random(153)
        webs = random_webs(154, 120, rooms=4, item=6)
        for one, other in zip(webs, source.sample(webs, len(webs))):
            floors = growth_floor(one, 40), growth_floor(other, 40)
            paper = judge_growths(one, other)
            self.assertTrue(right.growths(one, other, paper), (one, other, paper))
            self.assertIs(growths_hold(one, other, paper), True)
            if floors[0] != floors[1]:
                self.assertEqual(paper[0], "less" if floors[0] < floors[1] else "more")
                self.assertLess(max(paper[2] + paper[3]), 10 ** 100)
            else:
                self.assertEqual(paper[0], "equal")

    def test_little_difference(self):
        near = 0
        webs = sorted(random_webs(156, 400, rooms=4, item=6), key=lambda web: growth_floor(web, 40))
        for one, other in zip(webs, webs[1:]):
            gap = Fraction(growth_floor(other, 40) - growth_floor(one, 40), 1 << 40)
            if 0 < gap < Fraction(1, 100):
                near += 1
                for kind, pair in (("less", (one, other)), ("more", (other, one))):
                    paper = judge_growths(*pair)
                    self.assertEqual(paper[0], kind)
                    self.assertTrue(right.growths(*pair, paper))
                    self.assertIs(growths_hold(*pair, paper), True)
        self.assertGreater(near, 40)

    def test_common_roots_that_are_not_the_growth(self):
        # The roots 3 and -1, and 5 and -1; 2 and -2, and 3 and -2; or the growth of one web is
        # another root of the other web.
        for one, other in ((((1, 2), (2, 1)), ((2, 3), (3, 2))), (((0, 4), (1, 0)), ((0, 6), (1, 1))),
                           (CLOSE_TO_5, ((5,),)), (CLOSE_TO_5, ((0, 5), (5, 0))), (CLOSE_TO_6, ((6,),)),
                           (((2, 1), (1, 2)), LOOPS), (((2, 2, 0), (0, 2, 2), (2, 0, 2)), ((2, 1), (1, 2)))):
            for first, second in ((one, other), (other, one)):
                paper = judge_growths(first, second)
                self.assertNotEqual(paper[0], "equal")
                self.assertTrue(right.growths(first, second, paper))

    def test_numbers_between(self):
        # The growth of G is about 1.618, the one of the other web 1.732.
        other = ((0, 3), (1, 0))
        for number in ((8, 5), (5, 3), (17, 10), (7, 4), (34, 20)):
            for row in ((2, 1), (5, 3), (8, 5), (89, 55)):
                for other_row in ((7, 4), (17, 10), (5, 3), (12, 7), (2, 1)):
                    paper = ("less", number, row, other_row)
                    self.assertIs(growths_hold(G, other, paper), right.growths(G, other, paper))
                    paper = ("more", number, other_row, row)
                    self.assertIs(growths_hold(other, G, paper), right.growths(other, G, paper))
        self.assertIs(growths_hold(G, other, ("less", (34, 20), (5, 3), (17, 10))), True)

    def test_at_most_one_of_both_may_be_equal(self):
        flat = ((2, 1), (1, 2))
        self.assertIs(growths_hold(LOOPS, flat, ("less", (2, 1), (1,), (1, 1))), True)
        self.assertIs(growths_hold(LOOPS, flat, ("less", (3, 1), (1,), (1, 1))), True)
        self.assertIs(growths_hold(LOOPS, flat, ("more", (3, 1), (1,), (1, 1))), False)
        self.assertIs(growths_hold(flat, ((3,),), ("less", (3, 1), (1, 1), (1,))), False)
        self.assertIs(growths_hold(flat, ((3,),), ("less", (3, 1), (1, 2), (1,))), False)
        self.assertIs(growths_hold(flat, ((3,),), ("more", (3, 1), (1, 1), (1,))), False)
        self.assertIs(growths_hold(flat, ((3,),), ("equal", ((1,), (1,)))), True)

    def test_values_of_all_kinds(self):
        for one, other in ((G, LOOPS), (LOOPS, G), (G, THREE), (LOOPS, ((1, 1), (1, 1)))):
            papers = (judge_growths(one, other), ("less", (2, 1), (2, 1), (1,)), ("more", (2, 1), (1,), (2, 1)),
                      ("equal", ((1, 1, 0), (0, 0, 1))), ("equal", ((0, 0),)), ("equal", ((0, 0, 0),) * 2))
            for paper in papers:
                for thing in (paper, list(paper), paper[:1], paper + (0,)) + tuple(changed_once(paper)) + ANY_VALUES:
                    self.assertIs(growths_hold(one, other, thing), right.growths(one, other, thing), thing)


class WrongArguments(unittest.TestCase):
    def test_bad_web(self):
        for thing in ANY_VALUES + NO_WEBS:
            if plainly.is_web(thing):
                continue
            for function, rest in ((judge_growths, ()), (growths_hold, (thing,))):
                for one, other in ((thing, G), (G, thing), (thing, None)):
                    with self.assertRaises(BadWeb) as caught:
                        function(one, other, *rest)
                    self.assertIs(caught.exception.thing, thing)


class Largest(unittest.TestCase):
    def test_many_times(self):
        source = random.Random(157)
        for _ in range(80):
            one, other = random_web(source, 4, 6), random_web(source, 4, 6)
            self.assertIs(growths_hold(one, other, judge_growths(one, other)), True)
            self.assertIs(growths_hold(one, turned_web(one), judge_growths(one, turned_web(one))), True)


if __name__ == "__main__":
    unittest.main()
