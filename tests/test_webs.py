"""[1.1] and [1.3]: tables, webs, their faults, arrows, turned and renamed webs, powers."""

import itertools
import random
import unittest

from otherpace.errors import BadLength, BadOrder, BadTable, BadWeb
from otherpace.webs import (
    arrows, is_table, is_web, power, renamed_web, turned_web, web_fault, web_of, web_text)
from tests import plainly
from tests.samples import (
    ANY_VALUES, EIGHT, FULL, G, HUGE, LONG_RING, LOOPS, NO_WEBS, TWO_STEPS, WEBS, changed_once,
    random_tables)

NOT_LENGTHS = (None, True, False, -1, -(10 ** 39), "3", (3,), [3], {}, ())


class Tables(unittest.TestCase):
    def test_tables(self):
        for table in WEBS + NO_WEBS + (((0,) * 8,) * 8, ((10 ** 40 - 1,) * 8,) * 8):
            self.assertIs(is_table(table), True, table)

    def test_no_tables(self):
        for thing in ((), ((),), ((1,) * 9,) * 9, ((True,),), ((2, False), (1, 1)), [(2,)], ([2],), ((-1,),),
                      ((2,), (2,)), ((2, 1),), ((1, 1), (1,)), ((1, "1"), (1, 1)), ((1, None), (1, 1)), (2,), 2):
            self.assertIs(is_table(thing), False, thing)

    def test_any_values(self):
        for thing in ANY_VALUES:
            self.assertIs(is_table(thing), plainly.is_table(thing), thing)
            self.assertIs(is_web(thing), plainly.is_web(thing), thing)

    def test_values_that_are_wrong_in_one_place(self):
        for table in (G, LOOPS, TWO_STEPS, LONG_RING, HUGE, ((0, 1), (1, 0))):
            for thing in changed_once(table):
                self.assertIs(is_table(thing), plainly.is_table(thing), thing)
                self.assertIs(is_web(thing), plainly.is_web(thing), thing)

    def test_webs(self):
        for web in WEBS:
            self.assertIs(is_web(web), True, web)
        for table in NO_WEBS:
            self.assertIs(is_web(table), False, table)


class Faults(unittest.TestCase):
    def test_examples(self):
        self.assertEqual(web_fault(((0, 1), (1, 0))), ("ring",))
        self.assertEqual(web_fault(((1, 1), (0, 1))), ("apart", 1, 0))
        self.assertEqual(web_fault(((0,),)), ("apart", 0, 0))
        self.assertEqual(web_fault(((1,),)), ("ring",))
        self.assertIsNone(web_fault(G))
        self.assertIsNone(web_fault(LOOPS))

    def test_rooms_apart(self):
        self.assertEqual(web_fault(((2, 0), (0, 2))), ("apart", 0, 1))
        self.assertEqual(web_fault(((2, 1), (0, 0))), ("apart", 1, 0))
        self.assertEqual(web_fault(((0, 0), (1, 3))), ("apart", 0, 0))
        self.assertEqual(web_fault(((0, 1, 0), (1, 0, 0), (1, 0, 5))), ("apart", 0, 2))
        self.assertEqual(web_fault(((1, 1, 1), (1, 1, 1), (0, 0, 1))), ("apart", 2, 0))

    def test_eight_rooms(self):
        ring = tuple(tuple(int(j == (i + 1) % 8) for j in range(8)) for i in range(8))
        self.assertEqual(web_fault(ring), ("ring",))
        self.assertIsNone(web_fault(EIGHT))
        self.assertIsNone(web_fault(ring[:7] + ((2,) + (0,) * 7,)))
        self.assertEqual(web_fault(ring[:7] + ((0,) * 8,)), ("apart", 0, 0))
        self.assertEqual(web_fault(ring[:7] + ((0,) * 7 + (9,),)), ("apart", 0, 0))
        self.assertEqual(web_fault(((1,) * 8,) * 7 + ((0,) * 7 + (10 ** 39,),)), ("apart", 7, 0))

    def test_all_tables_of_two_rooms(self):
        for items in itertools.product(range(3), repeat=4):
            table = (items[:2], items[2:])
            self.assertEqual(web_fault(table), plainly.web_fault(table), table)

    def test_random_tables(self):
        for table in random_tables(1, 400, rooms=8):
            self.assertEqual(web_fault(table), plainly.web_fault(table), table)
            self.assertIs(is_web(table), plainly.web_fault(table) is None, table)

    def test_bad_table(self):
        things = [thing for thing in ANY_VALUES if not plainly.is_table(thing)]
        things.extend(thing for thing in changed_once(G) if not plainly.is_table(thing))
        for thing in things:
            with self.assertRaises(BadTable) as caught:
                web_fault(thing)
            self.assertIs(caught.exception.thing, thing)


class BadWebs(unittest.TestCase):
    def test_each_function_and_before_other_errors(self):
        calls = (arrows, turned_web, web_text, lambda web: renamed_web(web, (0, 1)), lambda web: power(web, 2),
                 lambda web: renamed_web(web, None), lambda web: power(web, None))
        things = [thing for thing in ANY_VALUES + NO_WEBS if not plainly.is_web(thing)]
        things.extend(thing for thing in changed_once(TWO_STEPS) if not plainly.is_web(thing))
        for call in calls:
            for thing in things:
                with self.assertRaises(BadWeb) as caught:
                    call(thing)
                self.assertIs(caught.exception.thing, thing)


class Arrows(unittest.TestCase):
    def test_example(self):
        self.assertEqual(arrows(G), ((0, 0, 0), (0, 1, 0), (1, 0, 0)))

    def test_ascending_and_all(self):
        for web in WEBS:
            if web != HUGE:
                self.assertEqual(arrows(web), tuple(plainly.arrows(web)))
                self.assertEqual(list(arrows(web)), sorted(arrows(web)))
        self.assertEqual(len(arrows(FULL)), 150)


class Turned(unittest.TestCase):
    def test_examples(self):
        self.assertEqual(turned_web(G), G)
        self.assertEqual(turned_web(TWO_STEPS), ((0, 1), (2, 0)))
        self.assertEqual(turned_web(LOOPS), LOOPS)
        self.assertEqual(turned_web(((1, 2, 3), (0, 1, 4), (1, 1, 0))), ((1, 0, 1), (2, 1, 1), (3, 4, 0)))

    def test_each_item(self):
        for web in WEBS:
            turned = turned_web(web)
            self.assertTrue(plainly.is_web(turned))
            for i, j in itertools.product(range(len(web)), repeat=2):
                self.assertEqual(turned[i][j], web[j][i])


class Renamed(unittest.TestCase):
    def test_examples(self):
        self.assertEqual(renamed_web(G, (1, 0)), ((0, 1), (1, 1)))
        self.assertEqual(renamed_web(G, (0, 1)), G)
        self.assertEqual(renamed_web(LOOPS, (0,)), LOOPS)
        self.assertEqual(renamed_web(((1, 2, 3), (0, 4, 5), (6, 7, 8)), (2, 0, 1)), ((8, 6, 7), (3, 1, 2), (5, 0, 4)))

    def test_each_item(self):
        source = random.Random(2)
        for web in WEBS:
            order = tuple(source.sample(range(len(web)), len(web)))
            renamed = renamed_web(web, order)
            self.assertTrue(plainly.is_web(renamed))
            for i, j in itertools.product(range(len(web)), repeat=2):
                self.assertEqual(renamed[i][j], web[order[i]][order[j]])

    def test_bad_order(self):
        web = ((0, 1, 1), (2, 0, 0), (1, 0, 1))
        orders = [repr(order) for order in itertools.permutations(range(3))]
        for thing in ANY_VALUES + tuple(changed_once((2, 0, 1))) + ((0, 1), (0, 1, 2, 3), (1, 2, 3), (-1, 0, 1),
                                                                    (0, 0, 1), [0, 1, 2], (0, True, 2), "012"):
            # By their texts, as (1, 0, 2) and (True, 0, 2) are equal.
            if repr(thing) in orders:
                self.assertTrue(is_web(renamed_web(web, thing)))
                continue
            with self.assertRaises(BadOrder) as caught:
                renamed_web(web, thing)
            self.assertIs(caught.exception.thing, thing)
        with self.assertRaises(BadOrder):
            renamed_web(G, (False, True))
        with self.assertRaises(BadOrder):
            renamed_web(LOOPS, (False,))


class Powers(unittest.TestCase):
    def test_example(self):
        self.assertEqual(power(G, 3), ((3, 2), (2, 1)))

    def test_length_0_and_1(self):
        self.assertEqual(power(G, 0), ((1, 0), (0, 1)))
        self.assertEqual(power(LOOPS, 0), ((1,),))
        for web in WEBS:
            self.assertEqual(power(web, 0), plainly.power(web, 0))
            self.assertEqual(power(web, 1), web)

    def test_all_lengths(self):
        for web in WEBS:
            expected = plainly.power(web, 0)
            for length in range(45):
                self.assertEqual(power(web, length), expected)
                expected = plainly.product(expected, web)

    def test_counts_walks(self):
        for web in (G, TWO_STEPS, ((0, 1, 1), (2, 0, 0), (1, 0, 1))):
            for length in range(1, 6):
                walks = plainly.walks(web, length)
                for i, j in itertools.product(range(len(web)), repeat=2):
                    many = sum(walk[0][0] == i and walk[-1][1] == j for walk in walks)
                    self.assertEqual(power(web, length)[i][j], many)

    def test_largest(self):
        self.assertEqual(power(FULL, 40), ((6 * 30 ** 39,) * 5,) * 5)
        read = web_of("web 8" + ("\n" + " ".join(["9" * 40] * 8)) * 8)
        self.assertEqual(power(read, 40)[7][0], 8 ** 39 * (10 ** 40 - 1) ** 40)
        self.assertEqual(power(LOOPS, 5000), ((2 ** 5000,),))

    def test_kinds(self):
        for row in power(G, 0):
            self.assertTrue(all(type(item) is int for item in row))
        self.assertIs(type(power(G, 2)), tuple)
        self.assertIs(type(power(G, 2)[0]), tuple)

    def test_bad_length(self):
        for thing in NOT_LENGTHS + tuple(thing for thing in ANY_VALUES if type(thing) is not int):
            with self.assertRaises(BadLength) as caught:
                power(G, thing)
            self.assertIs(caught.exception.thing, thing)


if __name__ == "__main__":
    unittest.main()
