"""[1.3]: numbers of walks and rounds, the fraction's bottom, and papers for "as many"."""

import itertools
import random
import unittest

from otherpace.errors import BadLength, BadRoom, BadWeb
from otherpace.numbers import as_many_holds, bottom_of, closed_many, judge_as_many, rounds_many, walks_many
from otherpace.prices import period_of
from otherpace.walks import rounds
from otherpace.webs import power, renamed_web, turned_web
from tests import plainly, right
from tests.samples import (
    ANY_VALUES, EIGHT, FULL, G, HUGE, LONG_RING, LOOPS, NO_WEBS, TWO_STEPS, WEBS, changed_once, random_web, random_webs)

# Their bottoms are (1, -2) and (1, -1, -2): the second web has a told round more of length 2,
# one less of length 1, and as many of all others.
NEARLY_LOOPS = ((0, 2), (1, 1))
# det(1 - A t) has fewer powers than the table has rooms.
FLAT = (((1, 1), (1, 1)), ((2, 1, 1), (2, 1, 1), (0, 1, 1)), ((1, 2, 3), (1, 2, 3), (1, 2, 3)),
        ((0, 0, 1, 1), (1, 0, 0, 0), (1, 0, 0, 0), (0, 1, 0, 0)), ((3,) * 8,) * 8)
GREAT = tuple(tuple(10 ** 40 - 7 * i * j - i for j in range(8)) for i in range(8))
GREAT_RING = tuple(tuple(10 ** 39 * int((j - i) in (1, -7)) + int(i == j == 3) for j in range(8)) for i in range(8))
SAME_BOTTOM = (
    (G, ((0, 1), (1, 1))), (G, ((1, 1, 0), (0, 0, 1), (1, 1, 0))), (LOOPS, ((1, 1), (1, 1))),
    (((1, 2, 0), (0, 1, 2), (1, 0, 1)), ((1, 1, 0), (0, 1, 2), (2, 0, 1))), (((4,),), ((1, 3), (1, 3))),
    # Neither is the other one turned or renamed.
    (((1, 6), (1, 0)), ((0, 2), (3, 1))), (((5,),), ((1,) * 5,) * 5),
)


def pairs_of_all_kinds():
    yield from SAME_BOTTOM
    yield from ((G, LOOPS), (LOOPS, NEARLY_LOOPS), (TWO_STEPS, LOOPS), (LONG_RING, TWO_STEPS), (FULL, G))
    source = random.Random(21)
    for web in random_webs(22, 12, rooms=4):
        order = list(range(len(web)))
        source.shuffle(order)
        yield web, turned_web(web)
        yield web, renamed_web(web, tuple(order))
        yield web, random_web(source, source.randint(1, 4), 3)


class Numbers(unittest.TestCase):
    def test_examples(self):
        self.assertEqual([closed_many(G, length) for length in (1, 2, 3, 4)], [1, 3, 4, 7])
        self.assertEqual([rounds_many(G, length) for length in (1, 2, 3, 4)], [1, 1, 1, 1])
        self.assertEqual([walks_many(G, i, j, 3) for i in (0, 1) for j in (0, 1)], [3, 2, 2, 1])

    def test_walks(self):
        for web in (G, LOOPS, TWO_STEPS, ((0, 1, 1), (2, 0, 0), (1, 0, 1))):
            for length in range(1, 6):
                walks = plainly.walks(web, length)
                for i, j in itertools.product(range(len(web)), repeat=2):
                    many = sum(walk[0][0] == i and walk[-1][1] == j for walk in walks)
                    self.assertEqual(walks_many(web, i, j, length), many)

    def test_walks_of_length_0(self):
        for web in WEBS:
            for i, j in itertools.product(range(len(web)), repeat=2):
                self.assertEqual(walks_many(web, i, j, 0), int(i == j))
                self.assertIs(type(walks_many(web, i, j, 0)), int)

    def test_all_lengths(self):
        for web in WEBS + FLAT + (GREAT, GREAT_RING):
            closed = plainly.closed_numbers(web, 42)
            told = plainly.told_numbers(closed)
            self.assertEqual([closed_many(web, length) for length in range(1, 43)], closed)
            self.assertEqual([rounds_many(web, length) for length in range(1, 43)], told)
            self.assertEqual(walks_many(web, 0, len(web) - 1, 40), plainly.power(web, 40)[0][-1])

    def test_told_rounds_are_as_many_as_the_listed_ones(self):
        webs = [web for web in random_webs(23, 40, rooms=4, item=3) if sum(map(sum, web)) <= 9]
        for web in webs + [G, LOOPS, TWO_STEPS, LONG_RING]:
            for length in range(1, 7):
                self.assertEqual(rounds_many(web, length), len(rounds(web, length)))


class Bottoms(unittest.TestCase):
    def test_examples(self):
        self.assertEqual(bottom_of(G), (1, -1, -1))
        self.assertEqual(bottom_of(LOOPS), (1, -2))
        self.assertEqual(bottom_of(TWO_STEPS), (1, 0, -2))
        self.assertEqual(bottom_of(NEARLY_LOOPS), (1, -1, -2))

    def test_determinant(self):
        for web in WEBS + FLAT + (GREAT, GREAT_RING) + tuple(random_webs(24, 60)):
            row = bottom_of(web)
            self.assertEqual(row[0], 1)
            self.assertLessEqual(len(row), len(web) + 1)
            self.assertTrue(all(type(item) is int for item in row))
            self.assertTrue(right.has_bottom(web, row), (web, row))

    def test_zeros_at_the_end_are_left_out(self):
        self.assertEqual([bottom_of(web) for web in FLAT],
                         [(1, -2), (1, -4, 2), (1, -6), (1, 0, -1, -1), (1, -24)])
        for web in FLAT:
            self.assertEqual(plainly.determinant(web), 0)

    def test_powers_obey_it(self):
        for web in WEBS + FLAT + (GREAT,):
            row = bottom_of(web)
            for length in range(len(web), len(web) + 4):
                for i, j in itertools.product(range(len(web)), repeat=2):
                    parts = [item * power(web, length - at)[i][j] for at, item in enumerate(row)]
                    self.assertEqual(sum(parts), 0)

    def test_turned_and_renamed(self):
        for web in WEBS + (GREAT,):
            self.assertEqual(bottom_of(turned_web(web)), bottom_of(web))
            self.assertEqual(bottom_of(renamed_web(web, tuple(reversed(range(len(web)))))), bottom_of(web))


class Papers(unittest.TestCase):
    def test_example(self):
        self.assertEqual(judge_as_many(G, LOOPS), ("length", 1))
        self.assertEqual(judge_as_many(G, G), ("as many", (1, -1, -1)))

    def test_judged(self):
        for one, other in pairs_of_all_kinds():
            paper = judge_as_many(one, other)
            self.assertTrue(right.as_many(one, other, paper), (one, other, paper))
            self.assertIs(as_many_holds(one, other, paper), True)
            self.assertEqual(paper[0] == "as many", bottom_of(one) == bottom_of(other))

    def test_same_bottoms(self):
        for one, other in SAME_BOTTOM:
            self.assertEqual(judge_as_many(one, other), ("as many", bottom_of(one)))
            for length in (1, 2, 3, 40, 4000):
                self.assertIs(as_many_holds(one, other, ("length", length)), False)

    def test_unlike_with_equal_first_lengths(self):
        # Rings of n rooms with an arrow more in one place: only lengths from n - 1 on differ.
        for rooms in range(3, 9):
            ring = [[int(j == (i + 1) % rooms) for j in range(rooms)] for i in range(rooms)]
            one, other = [list(row) for row in ring], [list(row) for row in ring]
            one[0][1] += 1
            other[rooms - 2][0] += 1
            one, other = tuple(map(tuple, one)), tuple(map(tuple, other))
            self.assertEqual(judge_as_many(one, other), ("length", rooms - 1))
            for length in range(1, 2 * rooms + 2):
                self.assertIs(as_many_holds(one, other, ("length", length)),
                              rounds_many(one, length) != rounds_many(other, length))

    def test_bottoms_of_unlike_length(self):
        # (1, -2) and (1, -2, 0, -1): equal but for a zero and one more item.
        one, other = LOOPS, ((2, 0, 1), (1, 0, 0), (0, 1, 0))
        self.assertEqual(bottom_of(other), (1, -2, 0, -1))
        for pair in ((one, other), (other, one)):
            self.assertEqual(judge_as_many(*pair), ("length", 3))
            self.assertEqual([as_many_holds(*pair, ("length", length)) for length in (1, 2, 3)], [False, False, True])

    def test_all_lengths(self):
        told = [plainly.told_numbers(plainly.closed_numbers(web, 4000))
                for web in (LOOPS, NEARLY_LOOPS, TWO_STEPS, ((1, 1), (1, 0)))]
        self.assertEqual([length for length in range(1, 4001) if told[0][length - 1] != told[1][length - 1]], [1, 2])
        webs = (LOOPS, NEARLY_LOOPS, TWO_STEPS, G)
        for (one, first), (other, second) in itertools.combinations(zip(webs, told), 2):
            for length in [*range(1, 200), 1000, 2310, 2520, 3989, 3999, 4000]:
                differ = first[length - 1] != second[length - 1]
                self.assertIs(as_many_holds(one, other, ("length", length)), differ, (one, other, length))

    def test_lengths_beyond(self):
        for length in (0, -1, 4001, 4002, 10 ** 39, -4000, True, None, "1", (1,), [1]):
            self.assertIs(as_many_holds(G, LOOPS, ("length", length)), False)

    def test_periods(self):
        # No rounds of odd length in both, and of even length unlike numbers.
        one, other = TWO_STEPS, ((0, 3), (1, 0))
        self.assertEqual([period_of(one), period_of(other)], [2, 2])
        for length in (1, 2, 3, 4, 3999, 4000):
            self.assertIs(as_many_holds(one, other, ("length", length)), length % 2 == 0)

    def test_polynomials(self):
        for one, other in SAME_BOTTOM:
            row = bottom_of(one)
            self.assertIs(as_many_holds(one, other, ("as many", row)), True)
            for wrong in (row + (0,), row[:-1], (1,) + row, list(row), (True,) + row[1:], row[1:], row[::-1], (),
                          tuple(map(str, row)), (row,), row[:-1] + (row[-1] + 1,)):
                self.assertIs(as_many_holds(one, other, ("as many", wrong)), False, wrong)
        self.assertIs(as_many_holds(G, LOOPS, ("as many", (1, -2))), False)
        self.assertIs(as_many_holds(G, LOOPS, ("as many", (1, -1, -1))), False)

    def test_values_of_all_kinds(self):
        for one, other in ((G, G), (G, LOOPS), (LOOPS, ((1, 1), (1, 1)))):
            paper = judge_as_many(one, other)
            things = ANY_VALUES + (paper, list(paper), paper + (0,), paper[:1], ("as many",), ("length",))
            for thing in things + tuple(changed_once(paper)):
                self.assertIs(as_many_holds(one, other, thing), right.as_many(one, other, thing), thing)

    def test_great_items(self):
        other = renamed_web(GREAT, (1, 0, 2, 3, 4, 5, 6, 7))
        changed = GREAT[:7] + (GREAT[7][:7] + (GREAT[7][7] + 1,),)
        for _ in range(20):
            self.assertEqual(judge_as_many(GREAT, turned_web(other)), ("as many", bottom_of(GREAT)))
            self.assertEqual(judge_as_many(GREAT, changed), ("length", 1))
            for length in (1, 2, 3989, 4000):
                self.assertIs(as_many_holds(GREAT, changed, ("length", length)), True)
                self.assertIs(as_many_holds(GREAT, other, ("length", length)), False)
                self.assertIs(as_many_holds(GREAT_RING, EIGHT, ("length", length)), length > 7)


class WrongArguments(unittest.TestCase):
    def test_bad_web(self):
        for thing in ANY_VALUES + NO_WEBS:
            if plainly.is_web(thing):
                continue
            for function, *rest in ((walks_many, "a", "b", "c"), (closed_many, 0), (rounds_many, 0), (bottom_of,)):
                with self.assertRaises(BadWeb) as caught:
                    function(thing, *rest)
                self.assertIs(caught.exception.thing, thing)
            for function, rest in ((judge_as_many, ()), (as_many_holds, (thing,))):
                for one, other in ((thing, G), (G, thing), (thing, None)):
                    with self.assertRaises(BadWeb) as caught:
                        function(one, other, *rest)
                    self.assertIs(caught.exception.thing, thing)

    def test_bad_room(self):
        for thing in (-1, 2, 10 ** 39, True, False, None, "0", (0,), [0], ()):
            for i, j in ((thing, 0), (0, thing), (thing, "other")):
                with self.assertRaises(BadRoom) as caught:
                    walks_many(G, i, j, "no length")
                self.assertIs(caught.exception.thing, thing)
        self.assertEqual(walks_many(HUGE, 2, 2, 1), 0)

    def test_bad_length(self):
        for thing in (-1, -(10 ** 39), True, False, None, "1", (1,), [1], {}):
            with self.assertRaises(BadLength) as caught:
                walks_many(G, 0, 1, thing)
            self.assertIs(caught.exception.thing, thing)
        for thing in (0, -1, -(10 ** 39), True, False, None, "1", (1,), [1], {}):
            for function in (closed_many, rounds_many):
                with self.assertRaises(BadLength) as caught:
                    function(G, thing)
                self.assertIs(caught.exception.thing, thing)


if __name__ == "__main__":
    unittest.main()
