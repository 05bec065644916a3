"""[2.1] to [2.3]: prices, heights, slopes, the first tree, plain rows, numbers and steps."""

import math
import random
import unittest

from otherpace.errors import BadHeights, BadNumbers, BadPrices, BadWalk, BadWeb
from otherpace.prices import (
    first_tree, is_price_row, period_of, plain_prices, price, price_numbers, prices_of, slope, step_of)
from tests import plainly
from tests.samples import (
    ANY_VALUES, EIGHT, G, HUGE, LONG_RING, LOOPS, TWO_STEPS, changed_once, random_round, random_row, random_walk,
    random_web, random_webs)

FULL_EIGHT = tuple(tuple(int((i * j) % 8 < 6) for j in range(8)) for i in range(8))
PRICED_WEBS = [G, LOOPS, ((5,),), TWO_STEPS, LONG_RING, EIGHT, FULL_EIGHT] + random_webs(41, 40)


def rows(seed, most=10 ** 6):
    """Webs with price rows, great and small ones."""
    source = random.Random(seed)
    for web in PRICED_WEBS:
        yield web, random_row(source, web, -most, most)
        yield web, random_row(source, web, -2, 2)
    yield EIGHT, (0,) * 9


class PriceRows(unittest.TestCase):
    def test_whether(self):
        self.assertIs(is_price_row(G, (5, 2, 1)), True)
        self.assertIs(is_price_row(G, (-10 ** 39, 0, 7)), True)
        for thing in ((5, 2), (5, 2, 1, 0), (5, 2, True), [5, 2, 1], (5, 2, "1"), (5, 2, (1,)), (), None, 5,
                      (5, None, 1)):
            self.assertIs(is_price_row(G, thing), False, thing)
        for thing in ANY_VALUES:
            self.assertIs(is_price_row(G, thing), type(thing) is tuple and len(thing) == 3 and
                          all(type(item) is int for item in thing))

    def test_as_many_as_arrows(self):
        for web, row in rows(42):
            self.assertIs(is_price_row(web, row), True)
            self.assertIs(is_price_row(web, row[1:]), False)
            self.assertIs(is_price_row(web, row + (0,)), False)
        self.assertIs(is_price_row(HUGE, (1, 2, 3)), False)


class Prices(unittest.TestCase):
    def test_of_walks(self):
        self.assertEqual(price(G, (5, 2, 1), ((0, 0, 0),) * 3 + ((0, 1, 0),)), 17)
        source = random.Random(43)
        for web, row in rows(44):
            walk = random_walk(source, web, source.randint(1, 40))
            self.assertEqual(price(web, row, walk), plainly.price(web, row, walk))

    def test_bad_walk(self):
        walk = ((0, 0, 0), (0, 1, 0))
        for thing in ANY_VALUES + tuple(changed_once(walk)):
            if plainly.is_walk(G, thing):
                self.assertEqual(price(G, (5, 2, 1), thing), plainly.price(G, (5, 2, 1), thing))
                continue
            with self.assertRaises(BadWalk) as caught:
                price(G, (5, 2, 1), thing)
            self.assertIs(caught.exception.thing, thing)
        with self.assertRaises(BadPrices):
            price(G, (5, 2), ())
        with self.assertRaises(BadWeb):
            price(((1,),), (5, 2), ())


class Slopes(unittest.TestCase):
    def test_example(self):
        self.assertEqual(slope(G, (0, 3)), (0, 3, -3))

    def test_each_arrow(self):
        source = random.Random(45)
        for web in PRICED_WEBS:
            heights = tuple(source.randint(-10 ** 6, 10 ** 6) for _ in web)
            self.assertEqual(slope(web, heights), plainly.slope(web, heights))
            self.assertEqual(slope(web, (7,) * len(web)), (0,) * len(plainly.arrows(web)))

    def test_every_round_has_the_price_0(self):
        source = random.Random(46)
        for web in PRICED_WEBS:
            heights = tuple(source.randint(-99, 99) for _ in web)
            for _ in range(5):
                self.assertEqual(price(web, slope(web, heights), random_round(source, web, 40)), 0)

    def test_bad_heights(self):
        for thing in ((0,), (0, 1, 2), [0, 1], (0, True), (False, 0), (0, "1"), ((0, 1),), (0, (1,)), None):
            with self.assertRaises(BadHeights) as caught:
                slope(G, thing)
            self.assertIs(caught.exception.thing, thing)


class FirstTree(unittest.TestCase):
    def test_examples(self):
        self.assertEqual(first_tree(G), ((0, 1, 0),))
        self.assertEqual(first_tree(LOOPS), ())
        self.assertEqual(first_tree(LONG_RING), ((0, 1, 0), (1, 2, 0), (2, 3, 0), (3, 4, 0)))

    def test_sequence_of_listed_rooms(self):
        # Room 2 is listed before room 1, so its arrow to room 3 is the one of the tree.
        web = ((0, 0, 2, 0), (0, 0, 0, 3), (0, 2, 0, 1), (1, 0, 0, 0))
        self.assertEqual(first_tree(web), ((0, 2, 0), (2, 1, 0), (2, 3, 0)))
        # Rooms 3 and 1 are both listed by room 0; room 1 is gone through first.
        web = ((0, 1, 0, 1), (0, 0, 1, 0), (1, 0, 0, 0), (0, 0, 1, 0))
        self.assertEqual(first_tree(web), ((0, 1, 0), (0, 3, 0), (1, 2, 0)))
        # Room 2 is gone through before room 1, which it lists itself.
        web = ((0, 0, 1, 1), (1, 0, 0, 0), (0, 1, 0, 0), (0, 1, 0, 0))
        self.assertEqual(first_tree(web), ((0, 2, 0), (0, 3, 0), (2, 1, 0)))

    def test_by_the_words(self):
        for web in PRICED_WEBS:
            listed, tree = [0], []
            for room in listed:
                for arrow in plainly.arrows(web):
                    if arrow[0] == room and arrow[1] not in listed:
                        listed.append(arrow[1])
                        tree.append(arrow)
            self.assertEqual(first_tree(web), tuple(sorted(tree)))
            self.assertEqual(len(tree), len(web) - 1)


class PlainRows(unittest.TestCase):
    def test_examples(self):
        self.assertEqual(plain_prices(G, (5, 2, 1)), (5, 0, 3))
        self.assertEqual(price_numbers(G, (5, 2, 1)), (5, 3))
        self.assertEqual(step_of(G, (5, 2, 1)), 1)
        self.assertEqual(price_numbers(LOOPS, (4, -6)), (4, -6))
        self.assertEqual(step_of(LOOPS, (4, -6)), 2)
        self.assertEqual(step_of(G, (0, 3, -3)), 0)
        self.assertEqual(prices_of(G, (5, 3)), (5, 0, 3))

    def test_plain_and_agreeing(self):
        source = random.Random(47)
        for web, row in rows(48):
            plain = plain_prices(web, row)
            tree = first_tree(web)
            worth = dict(zip(plainly.arrows(web), plain))
            self.assertEqual([worth[arrow] for arrow in tree], [0] * len(tree))
            for _ in range(5):
                lap = random_round(source, web, 40)
                self.assertEqual(price(web, plain, lap), price(web, row, lap))
            self.assertEqual(plain_prices(web, plain), plain)

    def test_numbers(self):
        source = random.Random(49)
        for web, row in rows(50):
            outside = [arrow for arrow in plainly.arrows(web) if arrow not in first_tree(web)]
            worth = dict(zip(plainly.arrows(web), plain_prices(web, row)))
            numbers = price_numbers(web, row)
            self.assertEqual(numbers, tuple(worth[arrow] for arrow in outside))
            self.assertEqual(prices_of(web, numbers), plain_prices(web, row))
            heights = tuple(source.randint(-99, 99) for _ in web)
            moved = tuple(x + y for x, y in zip(row, slope(web, heights)))
            self.assertEqual(price_numbers(web, moved), numbers)

    def test_each_tuple_is_the_numbers_of_a_row(self):
        source = random.Random(51)
        for web in PRICED_WEBS:
            many = len(plainly.arrows(web)) - len(web) + 1
            numbers = tuple(source.randint(-10 ** 6, 10 ** 6) for _ in range(many))
            self.assertEqual(price_numbers(web, prices_of(web, numbers)), numbers)

    def test_bad_numbers(self):
        for thing in ((5,), (5, 3, 1), [5, 3], (5, True), (5, "3"), ((5, 3),), None, 5, ()):
            with self.assertRaises(BadNumbers) as caught:
                prices_of(G, thing)
            self.assertIs(caught.exception.thing, thing)
        with self.assertRaises(BadNumbers):
            prices_of(HUGE, (1, 2))

    def test_step(self):
        source = random.Random(52)
        for web in PRICED_WEBS:
            for times in (1, 6, 10 ** 5):
                row = tuple(times * item for item in random_row(source, web, -9, 9))
                heights = tuple(source.randint(-99, 99) for _ in web)
                moved = tuple(x + y for x, y in zip(row, slope(web, heights)))
                laps = [random_round(source, web, 40) for _ in range(99)]
                if len(web) < 5:
                    laps = plainly.simple_rounds(web)
                expected = math.gcd(*[plainly.price(web, row, lap) for lap in laps])
                self.assertEqual(expected % max(1, step_of(web, moved)), 0)
                if len(web) < 5:
                    self.assertEqual(step_of(web, moved), expected)
                self.assertEqual(step_of(web, moved) % times, 0)

    def test_step_of_equal_rounds(self):
        for web in PRICED_WEBS:
            self.assertEqual(step_of(web, slope(web, tuple(range(3, 3 + len(web))))), 0)


class Periods(unittest.TestCase):
    def test_examples(self):
        self.assertEqual(period_of(G), 1)
        self.assertEqual(period_of(TWO_STEPS), 2)
        self.assertEqual(period_of(LONG_RING), 5)
        self.assertEqual(period_of(HUGE), 1)

    def test_step_of_ones(self):
        for web in PRICED_WEBS:
            self.assertEqual(period_of(web), step_of(web, (1,) * len(plainly.arrows(web))))

    def test_lengths_of_rounds(self):
        source = random.Random(53)
        for rooms, period in ((2, 2), (3, 3), (4, 2), (4, 4), (6, 3), (6, 2), (8, 4), (5, 1)):
            web = web_with_period(source, rooms, period)
            self.assertEqual(period_of(web), math.gcd(*[len(lap) for lap in plainly.simple_rounds(web)]))
            self.assertEqual(period_of(web) % period, 0)


def web_with_period(source, rooms, period):
    """A web whose arrows lead on by one, counted modulo the period; the sequence of rooms is mixed."""
    while True:
        place = [source.randrange(period) for _ in range(rooms)]
        web = tuple(tuple(source.randint(0, 2) * (place[j] == (place[i] + 1) % period) for j in range(rooms))
                    for i in range(rooms))
        if plainly.is_web(web) and sum(map(sum, web)) < 16:
            return web


class Returned(unittest.TestCase):
    def test_kinds(self):
        for answer in (slope(G, (0, 3)), plain_prices(G, (5, 2, 1)), price_numbers(G, (5, 2, 1)), prices_of(G, (5, 3))):
            self.assertIs(type(answer), tuple)
            self.assertTrue(all(type(item) is int for item in answer))

    def test_largest_many_times(self):
        source = random.Random(54)
        for _ in range(200):
            web = random_web(source, 8, 6)
            row = random_row(source, web, -10 ** 6, 10 ** 6)
            self.assertEqual(prices_of(web, price_numbers(web, row)), plain_prices(web, row))
            self.assertIs(type(step_of(web, row)), int)


if __name__ == "__main__":
    unittest.main()
