"""[8.3]: plain webs."""

import itertools
import unittest

from otherpace.errors import BadDivisors, BadRooms, BadSign
from otherpace.groups import divisors_of, sign_of
from otherpace.plainwebs import is_plain_web, plain_web
from tests import plainly, right
from tests.samples import ANY_VALUES, EIGHT, G, NO_WEBS, WEBS, changed_once, random_tables, random_webs


def groups(n, items=(0, 2, 3, 4, 6, 12)):
    """All divisors that a plain web of n rooms can have."""
    for many in range(n + 1):
        for group in itertools.product(items, repeat=many):
            divided = all(high == 0 if low == 0 else high % low == 0 for low, high in zip(group, group[1:]))
            if divided and not (many == n and group[0] == 0):
                yield group


def signs(n, group):
    if 0 in group:
        return (0,)
    return (-1,) if n == 1 else (-1, 1)


ALL = [(n, group, sense) for n in range(1, 5) for group in groups(n) for sense in signs(n, group)]
ALL += [(n, group, sense) for n in (5, 6) for group in list(groups(n, (0, 2, 6)))[::2] for sense in signs(n, group)]
ALL += [(6, (300,) * 6, 1), (6, (300,) * 6, -1), (1, (300,), -1), (6, (2, 0, 0, 0, 0, 0), 0), (6, (0,) * 5, 0)]
ALL = list(dict.fromkeys(ALL))


class PlainWebs(unittest.TestCase):
    def test_examples(self):
        self.assertEqual(plain_web(1, (3,), -1), ((4,),))
        self.assertEqual(plain_web(2, (), -1), ((2, 1), (2, 2)))
        self.assertEqual(plain_web(2, (), 1), ((2, 1), (1, 3)))
        self.assertEqual(plain_web(2, (0,), 0), ((2, 1), (1, 2)))

    def test_all(self):
        seen = set()
        for n, group, sense in ALL:
            web = plain_web(n, group, sense)
            self.assertEqual(web, right.plain_web(n, group, sense))
            self.assertTrue(plainly.is_web(web))
            self.assertEqual((divisors_of(web), sign_of(web)), (group, sense))
            if n < 5:
                self.assertEqual(right.group(web), (group, sense))
            self.assertIs(is_plain_web(web), True)
            seen.add(web)
        self.assertEqual(len(seen), len(ALL))

    def test_named_webs(self):
        self.assertEqual(plain_web(3, (2, 6), 1), ((2, 1, 1), (1, 4, 1), (7, 7, 2)))
        self.assertEqual(plain_web(3, (2, 6), -1), ((2, 1, 1), (1, 4, 1), (1, 1, 8)))
        self.assertEqual(plain_web(3, (2, 2, 6), 1), ((3, 2, 2), (2, 5, 2), (8, 8, 3)))
        self.assertEqual(plain_web(4, (3, 0), 0), ((2, 1, 1, 1), (1, 3, 1, 1), (1, 1, 5, 1), (1, 1, 1, 2)))

    def test_is_plain_web_of_small_tables(self):
        expected = {right.plain_web(*parts) for parts in ALL if parts[0] == 2}
        expected |= {right.plain_web(2, group, sense) for group in groups(2, (0,) + tuple(range(2, 9)))
                     for sense in signs(2, group)}
        for items in itertools.product(range(6), repeat=4):
            table = (items[:2], items[2:])
            self.assertIs(is_plain_web(table), table in expected, table)
        for item in range(9):
            self.assertIs(is_plain_web(((item,),)), item >= 2)

    def test_nearly_plain(self):
        for n, group, sense in [parts for parts in ALL if parts[0] < 5][::7]:
            web = right.plain_web(n, group, sense)
            for thing in changed_once(web):
                self.assertIs(is_plain_web(thing), is_plain(thing), thing)

    def test_only_the_last_item_may_be_below_0(self):
        # As [8.3] tells, but with e_1 = -1 or e_2 = -2.
        for web, holds in ((((2, 1, 1), (1, 3, 1), (2, 2, 2)), True), (((2, 1, 1), (2, 2, 2), (1, 1, 3)), False),
                           (((2, 1, 1), (2, 2, 2), (2, 2, 2)), False), (((2, 1, 1), (1, 3, 1), (3, 3, 2)), True),
                           (((2, 1, 1), (3, 2, 3), (1, 1, 4)), False), (((2, 1, 1), (1, 2, 1), (2, 2, 2)), False),
                           (((2, 1, 1), (1, 3, 1), (1, 1, 3)), True)):
            self.assertTrue(plainly.is_web(web))
            self.assertIs(is_plain_web(web), holds, web)

    def test_up_to_8_rooms(self):
        for n in (7, 8):
            for group, sense in (((), -1), ((), 1), ((2, 6), -1), ((2, 6), 1), ((0,), 0), ((5,) * n, 1), ((5,) * n, -1)):
                self.assertIs(is_plain_web(right.plain_web(n, group, sense)), True)
        self.assertIs(is_plain_web(EIGHT), False)
        self.assertIs(is_plain_web(right.plain_web(9, (), 1)), False)

    def test_values_of_all_kinds(self):
        for thing in ANY_VALUES + NO_WEBS + WEBS + tuple(random_webs(801, 40)) + tuple(random_tables(802, 40)):
            self.assertIs(is_plain_web(thing), is_plain(thing), thing)


def is_plain(thing):
    """Whether a table is the plain web of the divisors and the sign that it has, or would have."""
    if not plainly.is_web(thing):
        return False
    n = len(thing)
    less = [[item - (i == j) for j, item in enumerate(row)] for i, row in enumerate(thing)]
    e = [abs(less[i][i] - less[i][0]) for i in range(1, n)]
    group = tuple(item for item in [less[0][0]] + e if item != 1)
    if sorted(group) != list(group) and 0 not in group or less[0][0] < 1:
        return False
    if any(high % low if low else high for low, high in zip([less[0][0]] + e, e)):
        return False
    senses = (0,) if 0 in group else (-1, 1)
    return any(thing == right.plain_web(n, group, sense) for sense in senses)


class Errors(unittest.TestCase):
    def test_bad_rooms(self):
        for n in (0, -1, 7, 8, 10 ** 39, True, False, None, "2", (2,), [], G):
            for group in ((), None):
                with self.assertRaises(BadRooms) as caught:
                    plain_web(n, group, None)
                self.assertIs(caught.exception.thing, n)

    def test_bad_divisors(self):
        for n, group in ((1, (0,)), (2, (0, 0)), (3, (0, 0, 0)), (1, (2, 2)), (2, (2, 2, 2)), (3, (1,)), (3, (2, 1)),
                         (3, (1, 2)), (3, (2, 3)), (3, (4, 2)), (3, (0, 2)), (3, (-2,)), (3, (-1,)), (3, (2, -4)), (3, (True,)),
                         (3, (False,)), (3, [2]), (3, None), (3, 2), (3, "2"), (3, ("2",)), (3, ((2,),)), (3, {}),
                         (3, (2.0,)), (4, (2, 4, 6)), (4, (2, 0, 4)), (6, (2,) * 7)):
            for sense in (1, -1, 0, None):
                with self.assertRaises(BadDivisors) as caught:
                    plain_web(n, group, sense)
                self.assertIs(caught.exception.thing, group)

    def test_bad_signs(self):
        for n, group, sense in ((1, (), 1), (1, (), 0), (1, (3,), 1), (1, (3,), 0), (2, (), 0), (2, (0,), 1),
                                (2, (0,), -1), (2, (2, 0), 1), (3, (2, 2), 0), (2, (), 2), (2, (), -2), (2, (), True),
                                (2, (0,), False), (2, (), None), (2, (), "1"), (2, (), (1,)), (2, (), 10 ** 39)):
            with self.assertRaises(BadSign) as caught:
                plain_web(n, group, sense)
            self.assertIs(caught.exception.thing, sense)


if __name__ == "__main__":
    unittest.main()
