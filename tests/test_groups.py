"""[7.1] to [7.4]: rows modulo a web, and the group that they form."""

import itertools
import math
import random
import unittest

from otherpace.deeds import can_be_done, done
from otherpace.errors import BadDeed, BadNumber, BadRow, BadWeb, NoDeed
from otherpace.groups import count_of, divisors_of, image, judge_led, led_holds, plain_row, sign_of, stairs
from tests import plainly, right, taken
from tests.right import less_table
from tests.samples import (
    ANY_VALUES, EIGHT, FULL, G, HUGE, LONG_RING, LOOPS, NO_WEBS, TWO_STEPS, changed_once, random_web, random_webs)

FOUR = ((4,),)
NOUGHT = ((2, 1), (1, 2))
WEBS = [G, LOOPS, FOUR, ((7,),), NOUGHT, TWO_STEPS, LONG_RING, EIGHT, ((1, 1), (1, 1)), ((3, 2, 4), (2, 3, 4), (2, 2, 5)),
        ((1, 2, 0), (0, 1, 2), (2, 0, 1)), ((3, 0, 2), (2, 5, 0), (4, 4, 7)), ((2, 1, 1), (1, 2, 1), (1, 1, 2)),
        ((0, 1, 1), (2, 0, 0), (1, 0, 1))] + random_webs(701, 60, rooms=5, item=6, most_arrows=200)


def count(web, m):
    rows = itertools.product(range(m), repeat=len(web))
    return sum(all(sum(x * y for x, y in zip(line, row)) % m == 0 for line in less_table(web)) for row in rows)


def random_rows(seed, web, many, digits=12):
    """Rows with small items and with great ones."""
    source = random.Random(seed)
    for at in range(many):
        high = 10 ** digits - 1 if at % 2 else 3
        yield tuple(source.randint(-high, high) for _ in web)


def sum_of_lines(web, row, times):
    """The row plus z - z A."""
    return tuple(item + sum(z * line[at] for z, line in zip(times, less_table(web))) for at, item in enumerate(row))


class Group(unittest.TestCase):
    def test_examples(self):
        self.assertEqual((divisors_of(G), sign_of(G), stairs(G)), ((), -1, ((1, 0), (0, 1))))
        self.assertEqual((divisors_of(FOUR), sign_of(FOUR), count_of(FOUR, 6)), ((3,), -1, 3))
        self.assertEqual((divisors_of(((1, 1), (1, 1))), sign_of(((1, 1), (1, 1)))), ((), -1))
        self.assertEqual((divisors_of(NOUGHT), sign_of(NOUGHT), count_of(NOUGHT, 5)), ((0,), 0, 5))

    def test_divisors_against_minors(self):
        many = set()
        for web in WEBS:
            found = divisors_of(web)
            if len(web) <= 5:
                self.assertEqual(found, right.divisors(web), web)
            many.add(len(found))
            determinant = plainly.determinant(less_table(web))
            self.assertEqual(math.prod(found), abs(determinant))
            self.assertEqual(sign_of(web), (determinant > 0) - (determinant < 0))
        self.assertEqual(many, {0, 1, 2, 3})
        self.assertEqual({sign_of(web) for web in WEBS}, {-1, 0, 1})

    def test_named_divisors(self):
        self.assertEqual(divisors_of(((3, 2), (2, 3))), (2, 0))
        self.assertEqual(divisors_of(((3, 4), (4, 3))), (2, 6))
        self.assertEqual(divisors_of(((1, 2), (2, 1))), (2, 2))
        self.assertEqual(divisors_of(((2, 1, 1), (1, 2, 1), (1, 1, 2))), (0, 0))
        self.assertEqual(divisors_of(((3, 2, 2), (2, 3, 2), (2, 2, 3))), (2, 0, 0))
        self.assertEqual(divisors_of(((7, 6), (6, 7))), (6, 0))

    def test_counts(self):
        for web in WEBS:
            for m in range(1, {1: 40, 2: 16, 3: 7, 4: 4}.get(len(web), 2)):
                self.assertEqual(count_of(web, m), count(web, m))
            for m in (10 ** 6, 720720):
                self.assertEqual(count_of(web, m), math.prod(math.gcd(m, divisor) for divisor in divisors_of(web)))

    def test_stairs(self):
        for web in WEBS:
            found = stairs(web)
            leads = [next(at for at, item in enumerate(row) if item) for row in found]
            self.assertEqual(leads, sorted(set(leads)))
            for number, (row, lead) in enumerate(zip(found, leads)):
                self.assertGreater(row[lead], 0)
                for ahead in found[:number]:
                    self.assertIn(ahead[lead], range(row[lead]))
                # Each stair is a sum of the rows z - z A, and each of these is a sum of stairs.
                self.assertTrue(right.led_together(web, (0,) * len(web), row, judge_led(web, (0,) * len(web), row)))
                self.assertEqual(judge_led(web, (0,) * len(web), row)[0], "led")
            for line in less_table(web):
                left = line
                for row, lead in zip(found, leads):
                    left = [x - left[lead] // row[lead] * y for x, y in zip(left, row)]
                self.assertFalse(any(left))
            self.assertEqual(len(found), len(web) - divisors_of(web).count(0))

    def test_named_stairs(self):
        self.assertEqual(stairs(FOUR), ((3,),))
        self.assertEqual(stairs(NOUGHT), ((1, 1),))
        self.assertEqual(stairs(((1, 2), (2, 1))), ((2, 0), (0, 2)))
        self.assertEqual(stairs(((3, 4), (4, 3))), ((2, 4), (0, 6)))

    def test_plain_rows(self):
        self.assertEqual(plain_row(FOUR, (-1,)), (2,))
        for web in WEBS:
            steps = stairs(web)
            for row in random_rows(702, web, 6):
                found = plain_row(web, row)
                for step in steps:
                    lead = next(at for at, item in enumerate(step) if item)
                    self.assertIn(found[lead], range(step[lead]))
                self.assertEqual(judge_led(web, row, found)[0], "led")
                self.assertEqual(plain_row(web, found), found)
                for times in random_rows(703, web, 2):
                    self.assertEqual(plain_row(web, sum_of_lines(web, row, times)), found)


class Led(unittest.TestCase):
    def test_examples(self):
        self.assertEqual(judge_led(G, (0, 0), (1, 0)), ("led", (-1, -1)))
        self.assertEqual(judge_led(FOUR, (0,), (1,))[0], "apart")
        self.assertIs(led_holds(FOUR, (0,), (2,), ("apart", 3, (1,))), True)
        self.assertTrue(right.led_together(FOUR, (0,), (2,), judge_led(FOUR, (0,), (2,))))

    def test_papers(self):
        kinds = {"led": 0, "apart": 0}
        for web in WEBS:
            rows = list(random_rows(704, web, 8))
            others = rows[4:] + [sum_of_lines(web, row, times) for row, times in zip(rows, rows[3:])]
            for one, other in itertools.product(rows[:4], others):
                paper = judge_led(web, one, other)
                kinds[paper[0]] += 1
                self.assertTrue(right.led_together(web, one, other, paper), (web, one, other, paper))
                self.assertIs(led_holds(web, one, other, paper), True)
                self.assertEqual(paper[0] == "led", plain_row(web, one) == plain_row(web, other))
            for row, times in zip(rows, rows[1:]):
                self.assertEqual(judge_led(web, row, sum_of_lines(web, row, times))[0], "led")
        self.assertGreater(min(kinds.values()), 50)

    def test_apart_with_m_of_0_and_1_and_great(self):
        paper = judge_led(NOUGHT, (0, 0), (1, 0))
        self.assertEqual(paper[:2], ("apart", 0))
        for m, row, holds in ((0, (1, -1), True), (0, (-5, 5), True), (0, (1, 1), False), (0, (0, 0), False),
                              (1, (1, -1), False), (5, (1, -1), True), (5, (6, 4), True), (5, (5, 0), False),
                              (10 ** 39, (1, -1), True), (10 ** 39, (1 - 10 ** 39, 10 ** 39 - 1), True),
                              (-5, (1, -1), False), (True, (1, -1), False), (5, [1, -1], False), (5, (1, True), False)):
            self.assertIs(led_holds(NOUGHT, (0, 0), (1, 0), ("apart", m, row)), holds)
            self.assertIs(right.led_together(NOUGHT, (0, 0), (1, 0), ("apart", m, row)), holds)
        # The sum of the items is 3 here, so 3 shows nothing, and 6 does.
        for m, holds in ((3, False), (6, True), (2, True), (1, False), (0, True)):
            self.assertIs(led_holds(NOUGHT, (1, 0), (4, 0), ("apart", m, (1, -1))), holds)

    def test_several_right_rows(self):
        # Where the determinant is 0 there are many rows z.
        for z, holds in (((-1, 0), True), ((0, -1), True), ((5, -6), True), ((0, 0), False), ((1, 0), False)):
            self.assertIs(led_holds(NOUGHT, (3, 4), (4, 5), ("led", z)), holds)

    def test_values_of_all_kinds(self):
        for web, one, other in ((G, (0, 0), (1, 0)), (FOUR, (0,), (2,)), (NOUGHT, (0, 0), (1, 0)),
                                (NOUGHT, (0, 0), (2, 2)), (((3, 4), (4, 3)), (1, 1), (1, 2))):
            papers = [judge_led(web, one, other), ("apart", 6, (1,) * len(web)), ("led", (-2,) * len(web))]
            for paper in papers:
                for thing in [paper, list(paper), paper[:1], paper + (0,)] + changed_once(paper) + list(ANY_VALUES):
                    self.assertIs(led_holds(web, one, other, thing),
                                  right.led_together(web, one, other, thing), (web, thing))


class Deeds(unittest.TestCase):
    def test_images_one_by_one(self):
        web = ((1, 2, 1), (1, 0, 2), (3, 1, 1))
        for deed, expected in ((("after", 0, 2, 9), (5, 7, 11)), (("before", 0, 2, 9), (5, 7, 56)),
                               (("before", 2, 0, 1), (16, 7, 11)), (("pass", 1), (12, 25)),
                               (("stretch", 0, 1), (5, 7, 11, 0)), (("turn", (2, 0, 1)), (11, 5, 7))):
            self.assertEqual(image(web, deed, (5, 7, 11)), expected)
        self.assertEqual(image(((4, 9), (3, 10)), ("unbefore", 0, 1, 2), (5, 7)), (5, -3))
        self.assertEqual(image(((4, 3), (1, 2)), ("unafter", 0, 1, 1), (5, 7)), (5, 7))

    def test_led_together_in_both_webs_or_in_none(self):
        kinds = {"led": 0, "apart": 0}
        for web in WEBS[:40]:
            rows = list(random_rows(705, web, 3, digits=1))
            rows += [sum_of_lines(web, rows[0], rows[1]), sum_of_lines(web, rows[1], rows[2])]
            for deed in taken.all_deeds(web, (1, 3)):
                if can_be_done(web, deed):
                    result = done(web, deed)
                    images = [image(web, deed, row) for row in rows]
                    self.assertEqual((divisors_of(result), sign_of(result)), (divisors_of(web), sign_of(web)))
                    for (one, led), (other, other_led) in itertools.combinations(zip(rows, images), 2):
                        kind = judge_led(web, one, other)[0]
                        kinds[kind] += 1
                        self.assertEqual(judge_led(result, led, other_led)[0], kind, (web, deed, one, other))
        self.assertGreater(min(kinds.values()), 100)

    def test_all_rows_of_the_result(self):
        # Each plain row of the result is led together with an image.
        for web in (FOUR, ((3, 4), (4, 3)), ((1, 2), (2, 1)), ((1, 2, 0), (0, 1, 2), (2, 0, 1))):
            plain = [row for row in itertools.product(range(6), repeat=len(web)) if plain_row(web, row) == row]
            self.assertEqual(len(plain), math.prod(divisors_of(web)))
            for deed in taken.all_deeds(web):
                if can_be_done(web, deed):
                    result = done(web, deed)
                    images = {plain_row(result, image(web, deed, row)) for row in plain}
                    self.assertEqual(len(images), len(plain))

    def test_webs_that_chains_made(self):
        source = random.Random(706)
        for _ in range(40):
            web = random_web(source, source.randint(2, 5), 6, 200)
            expected = (divisors_of(web), sign_of(web))
            for _ in range(25):
                deeds = list(taken.all_deeds(web, (1, 9, 500)))
                source.shuffle(deeds)
                deed = next(deed for deed in deeds if can_be_done(web, deed))
                if max(map(max, done(web, deed))) < 10 ** 30:
                    web = done(web, deed)
            self.assertEqual((divisors_of(web), sign_of(web)), expected)
            self.assertEqual(count_of(web, 6), math.prod(math.gcd(6, divisor) for divisor in expected[0]))
            one, other = random_rows(707, web, 2)
            paper = judge_led(web, one, other)
            self.assertTrue(right.led_together(web, one, other, paper))
            self.assertIs(led_holds(web, one, other, paper), True)
            self.assertEqual(judge_led(web, one, plain_row(web, one))[0], "led")


class Errors(unittest.TestCase):
    def test_bad_web_first(self):
        for thing in NO_WEBS + (None, [[2]], ((True, 1), (1, 1))):
            for function, rest in ((divisors_of, ()), (sign_of, ()), (count_of, (0,)), (stairs, ()),
                                   (plain_row, (None,)), (judge_led, (None, None)), (led_holds, (None, None, None)),
                                   (image, (None, None))):
                with self.assertRaises(BadWeb) as caught:
                    function(thing, *rest)
                self.assertIs(caught.exception.thing, thing)

    def test_bad_numbers(self):
        for thing in (0, -1, True, False, None, "2", (2,), [2], {}, -(10 ** 39)):
            with self.assertRaises(BadNumber) as caught:
                count_of(G, thing)
            self.assertIs(caught.exception.thing, thing)

    def test_bad_rows(self):
        fit = (5, 7)
        for thing in changed_once(fit) + list(ANY_VALUES):
            if right.is_row(thing, 2):
                continue
            for function, args in ((plain_row, (G, thing)), (judge_led, (G, thing, fit)), (judge_led, (G, fit, thing)),
                                   (judge_led, (G, thing, None)), (led_holds, (G, thing, (), None)),
                                   (led_holds, (G, fit, thing, None)), (image, (G, ("pass", 1), thing))):
                with self.assertRaises(BadRow) as caught:
                    function(*args)
                self.assertIs(caught.exception.thing, thing)

    def test_deeds_ahead_of_rows(self):
        with self.assertRaises(BadDeed):
            image(G, ("pass", 2), None)
        with self.assertRaises(NoDeed) as caught:
            image(G, ("pass", 0), None)
        self.assertEqual(caught.exception.deed, ("pass", 0))


class Largest(unittest.TestCase):
    def test_many_times(self):
        for web in [FULL, HUGE] + WEBS:
            for one, other in zip(random_rows(708, web, 12), random_rows(709, web, 12)):
                paper = judge_led(web, one, other)
                self.assertIs(led_holds(web, one, other, paper), True)
                self.assertEqual(len(plain_row(web, one)), len(web))
            for m in range(10 ** 6 - 20, 10 ** 6 + 1):
                self.assertGreaterEqual(count_of(web, m), 1)


if __name__ == "__main__":
    unittest.main()
