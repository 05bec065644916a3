"""[3.1] and [3.2]: counts of arrows, papers for them, and how many rounds have them."""

import collections
import itertools
import random
import unittest

from otherpace.counts import counted_many, counts_hold, counts_of, judge_counts, told_many
from otherpace.errors import BadCounts, BadWalk, BadWeb
from tests import plainly, right
from tests.samples import (
    ANY_VALUES, G, LOOPS, TWO_STEPS, changed_once, random_round, random_row, random_walk, random_web, random_webs)

THREE = ((0, 1, 1), (2, 0, 0), (1, 0, 1))
# A round at each of the rooms 0, 1 and 2, and one through all of them.
APART = ((1, 1, 0), (0, 1, 1), (1, 0, 1))
FOUR = ((1, 1, 0, 0), (1, 0, 1, 0), (0, 0, 0, 2), (1, 0, 1, 1))
RING = ((0, 4, 0, 0), (0, 0, 4, 0), (0, 0, 0, 4), (4, 0, 0, 0))
FULL_FOUR = ((1,) * 4,) * 4
# Two rooms lead to one another, and not only by way of the first one.
BOTH_WAYS = ((0, 1, 1), (1, 0, 1), (1, 1, 0))
SMALL = (G, LOOPS, TWO_STEPS, THREE, APART, BOTH_WAYS)
WEBS = SMALL + (FOUR, RING, FULL_FOUR) + tuple(random_webs(111, 15, rooms=4, item=3, most_arrows=16))


def rounds_by_counts(web, length):
    """How many rounds, and how many told rounds, of a length have each counts."""
    many, told = collections.Counter(), collections.Counter()
    for walk in plainly.walks(web, length):
        if plainly.is_round(web, walk):
            row = right.counted(web, walk)
            many[row] += 1
            told[row] += plainly.is_told_round(web, walk)
    return many, told


def small_counts(web, most):
    """All counts with a sum up to most."""
    many = len(plainly.arrows(web))
    return [row for row in itertools.product(range(most + 1), repeat=many) if sum(row) <= most]


class CountsOf(unittest.TestCase):
    def test_walks(self):
        self.assertEqual(counts_of(G, ((0, 0, 0), (0, 1, 0))), (1, 1, 0))
        self.assertEqual(counts_of(G, ((0, 0, 0),) * 7), (7, 0, 0))
        source = random.Random(112)
        for web in WEBS:
            walk = random_walk(source, web, source.randint(1, 40))
            self.assertEqual(counts_of(web, walk), right.counted(web, walk))

    def test_bad_walk(self):
        for thing in ANY_VALUES + tuple(changed_once(((0, 0, 0), (0, 1, 0), (1, 0, 0)))):
            if plainly.is_walk(G, thing):
                self.assertEqual(counts_of(G, thing), right.counted(G, thing))
                continue
            with self.assertRaises(BadWalk) as caught:
                counts_of(G, thing)
            self.assertIs(caught.exception.thing, thing)
        with self.assertRaises(BadWeb):
            counts_of(((1,),), ())


class Papers(unittest.TestCase):
    def test_examples(self):
        self.assertTrue(right.counts(G, (2, 1, 1), judge_counts(G, (2, 1, 1))))
        self.assertIs(counts_hold(G, (2, 1, 1), ("round", ((0, 0, 0), (0, 0, 0), (0, 1, 0), (1, 0, 0)))), True)
        self.assertEqual(judge_counts(G, (1, 1, 0))[0], "uneven")
        self.assertIs(counts_hold(G, (1, 1, 0), ("uneven", 0)), True)
        self.assertIs(counts_hold(G, (1, 1, 0), ("uneven", 1)), True)

    def test_against_plain_enumeration(self):
        for web in SMALL:
            found = [rounds_by_counts(web, length)[0] for length in range(1, 6)]
            for row in small_counts(web, 5 if len(web) < 3 else 4):
                paper = judge_counts(web, row)
                has_round = sum(row) > 0 and found[sum(row) - 1][row] > 0
                self.assertEqual(paper[0] == "round", has_round, (web, row))
                self.assertTrue(right.counts(web, row, paper))
                self.assertIs(counts_hold(web, row, paper), True)

    def test_each_kind(self):
        self.assertEqual(judge_counts(APART, (0,) * 6), ("nought",))
        self.assertEqual(judge_counts(APART, (1, 0, 2, 0, 0, 0))[0], "parts")
        self.assertEqual(judge_counts(APART, (1, 1, 0, 0, 0, 0))[0], "uneven")
        self.assertEqual(judge_counts(APART, (2, 1, 0, 1, 1, 0))[0], "round")

    def test_long_rounds(self):
        source = random.Random(113)
        for web in WEBS:
            for _ in range(10):
                row = right.counted(web, random_round(source, web, 40))
                kind, lap = judge_counts(web, row)
                self.assertEqual(kind, "round")
                self.assertTrue(plainly.is_round(web, lap))
                self.assertEqual(counts_of(web, lap), row)
                self.assertIs(counts_hold(web, row, (kind, lap)), True)

    def test_any_round_with_these_counts(self):
        for web in SMALL:
            for length in (3, 4):
                laps = [walk for walk in plainly.walks(web, length) if plainly.is_round(web, walk)]
                for lap in laps:
                    row = right.counted(web, lap)
                    for other in laps:
                        same = right.counted(web, other) == row
                        self.assertIs(counts_hold(web, row, ("round", other)), same)

    def test_any_uneven_room(self):
        source = random.Random(114)
        for web in WEBS:
            for _ in range(10):
                row = random_row(source, web, 0, 2)
                for room in range(-1, len(web) + 1):
                    expected = right.counts(web, row, ("uneven", room))
                    self.assertIs(counts_hold(web, row, ("uneven", room)), expected)

    def test_any_lot_of_rooms(self):
        # Rooms at which nothing begins may be among them or not.
        source = random.Random(115)
        for web in (APART, FOUR, RING, FULL_FOUR):
            lots = [lot for many in range(len(web) + 1) for lot in itertools.permutations(range(len(web)), many)]
            rows = [random_row(source, web, 0, 1) for _ in range(15)]
            rows += [tuple(many * source.randint(0, 1) for many in row) for row in rows]
            for row in rows + [right.counted(web, random_round(source, web, 9))]:
                for lot in lots:
                    self.assertIs(counts_hold(web, row, ("parts", lot)), right.counts(web, row, ("parts", lot)))
        row = (1, 0, 0, 0, 0, 1)
        self.assertEqual([lot for lot in ((0,), (1,), (2,), (0, 1), (0, 2), (1, 2), (0, 1, 2), (), (1, 0), (0, 0))
                          if counts_hold(APART, row, ("parts", lot))], [(0,), (2,), (0, 1), (1, 2)])

    def test_parts_of_uneven_counts(self):
        # In room 0 a round, in rooms 1 and 2 a walk that does not come back.
        row = (1, 0, 1, 1, 0, 1)
        self.assertEqual(judge_counts(APART, row)[0], "uneven")
        for lot, holds in (((0,), True), ((1, 2), True), ((1,), False), ((2,), False), ((0, 1), False)):
            self.assertIs(counts_hold(APART, row, ("parts", lot)), holds)

    def test_judged_parts(self):
        for row in ((1, 0, 2, 0, 0, 0), (1, 0, 0, 0, 0, 1), (0, 0, 3, 0, 0, 1), (1, 0, 1, 0, 0, 1)):
            paper = judge_counts(APART, row)
            self.assertEqual(paper[0], "parts")
            self.assertTrue(right.counts(APART, row, paper))
        self.assertEqual(judge_counts(FOUR, (2, 0, 0, 0, 0, 0, 0, 0, 3))[0], "parts")

    def test_values_of_all_kinds(self):
        for web, row in ((G, (2, 1, 1)), (G, (1, 1, 0)), (G, (0, 0, 0)), (APART, (1, 0, 2, 0, 0, 0)), (G, (1, 0, 0))):
            papers = (judge_counts(web, row), ("parts", (0, 1)), ("parts", (0,)), ("uneven", 0), ("nought",),
                      ("round", ((0, 0, 0),)), ("round", ()), ("nought", 0), ("uneven",), ("uneven", True))
            for paper in papers:
                for thing in (paper, list(paper), paper[:1], paper + (0,)) + tuple(changed_once(paper)) + ANY_VALUES:
                    self.assertIs(counts_hold(web, row, thing), right.counts(web, row, thing), (row, thing))


class HowMany(unittest.TestCase):
    def test_examples(self):
        self.assertEqual(counted_many(G, (2, 1, 1)), 4)
        self.assertEqual(counted_many(G, (2, 2, 2)), 9)
        self.assertEqual(counted_many(G, (1, 1, 1)), 3)
        self.assertEqual(told_many(G, (2, 2, 2)), 1)

    def test_against_plain_enumeration(self):
        for web in SMALL:
            for length in range(1, 7 if len(plainly.arrows(web)) < 6 else 6):
                many, told = rounds_by_counts(web, length)
                for row in many:
                    self.assertEqual(counted_many(web, row), many[row], (web, row))
                    self.assertEqual(told_many(web, row), told[row], (web, row))

    def test_two_letters(self):
        # The rounds of the web of one room are the words, their numbers the ones of B. Pascal.
        for one, other in itertools.product(range(7), repeat=2):
            words = [word for word in itertools.product((0, 1), repeat=one + other) if sum(word) == other]
            laps = [tuple((0, 0, letter) for letter in word) for word in words]
            if one + other > 0:
                self.assertEqual(counted_many(LOOPS, (one, other)), len(laps))
            if 0 < one + other < 11:
                told = [lap for lap in laps if plainly.is_told_round(LOOPS, lap)]
                self.assertEqual(told_many(LOOPS, (one, other)), len(told))

    def test_none(self):
        for web in WEBS:
            self.assertEqual(counted_many(web, (0,) * len(plainly.arrows(web))), 0)
            self.assertEqual(told_many(web, (0,) * len(plainly.arrows(web))), 0)
        source = random.Random(116)
        for web in WEBS:
            for _ in range(10):
                row = random_row(source, web, 0, 2)
                has_round = judge_counts(web, row)[0] == "round"
                self.assertEqual(counted_many(web, row) > 0, has_round)
                if not has_round:
                    self.assertEqual(told_many(web, row), 0)

    def test_rounds_of_all_counts_together(self):
        for web in (G, LOOPS, THREE):
            for length in range(1, 6):
                rows = [row for row in small_counts(web, length) if sum(row) == length]
                self.assertEqual(sum(counted_many(web, row) for row in rows), plainly.closed_numbers(web, length)[-1])
                told = plainly.told_numbers(plainly.closed_numbers(web, length))[-1]
                self.assertEqual(sum(told_many(web, row) for row in rows), told)

    def test_told_rounds_repeated_are_all_rounds(self):
        source = random.Random(117)
        for web in WEBS:
            base = right.counted(web, random_round(source, web, 7))
            for times in (1, 2, 4, 5):
                row = tuple(times * many for many in base)
                greatest = max(size for size in range(1, 41) if all(many % size == 0 for many in row))
                parts = [size for size in range(1, greatest + 1) if greatest % size == 0]
                total = sum(sum(row) // size * told_many(web, tuple(many // size for many in row)) for size in parts)
                self.assertEqual(counted_many(web, row), total)


class WrongArguments(unittest.TestCase):
    def test_bad_counts(self):
        for thing in ((1, 1), (1, 1, 1, 1), (1, 1, -1), (1, 1, True), (False, 0, 0), [1, 1, 1], None, 3, "111",
                      (1, 1, "1"), ((1, 1, 1),), (1, 1, None), ()):
            for function in (judge_counts, counts_hold, counted_many, told_many):
                rest = (("nought",),) if function is counts_hold else ()
                with self.assertRaises(BadCounts) as caught:
                    function(G, thing, *rest)
                self.assertIs(caught.exception.thing, thing)
                with self.assertRaises(BadWeb):
                    function(((1, 1), (0, 1)), thing, *rest)


class Largest(unittest.TestCase):
    def test_many_times(self):
        source = random.Random(118)
        for _ in range(100):
            web = random_web(source, 4, 4, most_arrows=16)
            lap = random_round(source, web, 40)
            row = right.counted(web, lap)
            self.assertIs(counts_hold(web, row, judge_counts(web, row)), True)
            self.assertGreaterEqual(counted_many(web, row), len(lap))
            self.assertGreaterEqual(told_many(web, row), 0)
        self.assertEqual(counted_many(RING, (10, 0, 0, 0) * 4), 4)
        self.assertEqual(told_many(RING, (10, 0, 0, 0) * 4), 0)


if __name__ == "__main__":
    unittest.main()
