"""[6.1] and [6.3]: deeds and chains of them, against deeds that are done arrow by arrow."""

import random
import unittest

from otherpace.deeds import can_be_done, done, is_deed, made
from otherpace.errors import BadChain, BadDeed, BadWeb, NoDeed
from otherpace.webs import renamed_web
from tests import plainly, taken
from tests.samples import (
    ANY_VALUES, EIGHT, FULL, G, HUGE, LONG_RING, LOOPS, NO_WEBS, TWO_STEPS, changed_once, random_web, random_webs)

WEBS = [G, LOOPS, ((4,),), TWO_STEPS, LONG_RING, EIGHT, ((1, 2), (1, 0)), ((0, 3), (1, 1)),
        ((0, 1, 1), (2, 0, 0), (1, 0, 1))] + random_webs(601, 40, rooms=5, item=3, most_arrows=20)
NO_DEEDS = (
    ("after", 0, 0, 1), ("after", 0, 2, 1), ("after", -1, 1, 1), ("after", 0, 1, 0), ("after", 0, 1, -1),
    ("after", 0, 1, True), ("after", False, 1, 1), ("after", 0, True, 1), ("after", 0, 1), ("after", 0, 1, 1, 1),
    ["after", 0, 1, 1], ("after", 0, 1, None), ("after", 0, 1, "1"), ("after", (0,), 1, 1), ("After", 0, 1, 1),
    ("behind", 0, 1, 1), ("before", 1, 1, 1), ("unafter", 0, 0, 1), ("unbefore", 1, 0, 0), ("un", 0, 1, 1),
    ("pass",), ("pass", 2), ("pass", -1), ("pass", True), ("pass", 0, 1), ("pass", None), ("pass", (0,)), ["pass", 0],
    ("stretch", 0), ("stretch", 0, 2), ("stretch", 2, 0), ("stretch", 0, False), ("stretch", 0, 0, 1),
    ("turn",), ("turn", (0,)), ("turn", (0, 1, 2)), ("turn", (0, 0)), ("turn", [1, 0]), ("turn", (1, False)),
    ("turn", (1, 0), 1), ("turn", 1, 0), (None, 0), ((), 0), (), "turn", None, 0, {"turn": (1, 0)}, (("turn", (1, 0)),))


def rows_equal(web, other, times, i, j):
    """Whether other has in row i, and only there, so many times what "after" brings along."""
    row = [x + times * (y - (at == j)) for at, (x, y) in enumerate(zip(web[i], web[j]))]
    return other == web[:i] + (tuple(row),) + web[i + 1:]


class Examples(unittest.TestCase):
    def test_after(self):
        with self.assertRaises(NoDeed) as caught:
            done(G, ("after", 0, 1, 1))
        self.assertEqual(caught.exception.deed, ("after", 0, 1, 1))
        self.assertEqual(done(((1, 2), (1, 0)), ("after", 0, 1, 1)), ((2, 1), (1, 0)))
        self.assertEqual(done(((2, 1), (1, 0)), ("unafter", 0, 1, 1)), ((1, 2), (1, 0)))

    def test_others(self):
        self.assertEqual(done(G, ("pass", 1)), LOOPS)
        self.assertEqual(done(LOOPS, ("stretch", 0, 0)), G)
        self.assertEqual(made(G, (("pass", 1), ("stretch", 0, 0))), G)
        self.assertEqual(made(G, ()), G)
        self.assertEqual(done(TWO_STEPS, ("turn", (1, 0))), ((0, 1), (2, 0)))

    def test_before_is_not_after(self):
        web = ((1, 2, 0), (0, 1, 3), (4, 0, 0))
        self.assertEqual(done(web, ("after", 0, 1, 1)), ((1, 2, 3), (0, 1, 3), (4, 0, 0)))
        self.assertEqual(done(web, ("before", 0, 1, 1)), ((1, 2, 0), (0, 1, 3), (4, 4, 0)))
        self.assertEqual(done(((1, 1), (2, 1)), ("before", 0, 1, 1)), ((1, 1), (2, 3)))


class Done(unittest.TestCase):
    def check(self, web, deed):
        self.assertIs(is_deed(web, deed), True)
        expected = taken.done(web, deed)
        self.assertIs(can_be_done(web, deed), expected is not None)
        if expected is None:
            with self.assertRaises(NoDeed) as caught:
                done(web, deed)
            self.assertIs(caught.exception.deed, deed)
        else:
            self.assertEqual(done(web, deed), expected)
        return expected

    def test_arrow_by_arrow(self):
        kinds = {}
        for web in WEBS:
            for deed in taken.all_deeds(web, (1, 2, 3, 7)):
                found = self.check(web, deed) is not None
                kinds.setdefault(deed[0], []).append(found)
        for kind, found in kinds.items():
            self.assertIn(True, found, kind)
            self.assertIs(False in found, kind != "turn", kind)

    def test_small_webs(self):
        for numbers in range(4 ** 4):
            web = tuple((numbers // 64 ** i % 4, numbers // (4 * 16 ** i) % 4) for i in range(2))
            if plainly.is_web(web):
                for deed in taken.all_deeds(web, (1, 2, 4)):
                    self.check(web, deed)

    def test_un_behind_and_ahead(self):
        for web in WEBS:
            rooms = range(len(web))
            for i, j in ((i, j) for i in rooms for j in rooms if i != j):
                for times in (1, 2, 5):
                    for one, other in (("after", "unafter"), ("before", "unbefore")):
                        for first, second in ((one, other), (other, one)):
                            if can_be_done(web, (first, i, j, times)):
                                changed = done(web, (first, i, j, times))
                                self.assertEqual(done(changed, (second, i, j, times)), web)

    def test_many_times_at_once(self):
        for web in WEBS:
            rooms = range(len(web))
            for i, j in ((i, j) for i in rooms for j in rooms if i != j):
                for kind in ("after", "before", "unafter", "unbefore"):
                    for times in (2, 3, 11):
                        chain = ((kind, i, j, 1),) * times
                        try:
                            expected = made(web, chain)
                        except BadChain:
                            expected = None
                        self.assertIs(can_be_done(web, (kind, i, j, times)), expected is not None)
                        if expected is not None:
                            self.assertEqual(done(web, (kind, i, j, times)), expected)

    def test_ten_thousand_times(self):
        web = ((1, 2, 1), (1, 1, 2), (3, 0, 1))
        for kind, other in (("after", "unafter"), ("before", "unbefore")):
            for i, j in ((0, 1), (1, 2), (2, 0)):
                changed = done(web, (kind, i, j, 10 ** 4))
                one_by_one = web
                for _ in range(10 ** 4):
                    one_by_one = done(one_by_one, (kind, i, j, 1))
                self.assertEqual(changed, one_by_one)
                self.assertEqual(done(changed, (other, i, j, 10 ** 4)), web)
                self.assertIs(can_be_done(changed, (other, i, j, 10 ** 4 + 10)), False)
        self.assertTrue(rows_equal(web, done(web, ("after", 0, 1, 10 ** 39)), 10 ** 39, 0, 1))
        # Without arrows from j to j each time one arrow less is left.
        for times, holds in ((9999, True), (10 ** 4, False), (10 ** 4 - 1, True), (10 ** 39, False)):
            self.assertIs(can_be_done(((0, 10 ** 4), (1, 0)), ("after", 0, 1, times)), holds)
        self.assertIs(can_be_done(((0, 10 ** 4, 1), (1, 0, 1), (0, 1, 1)), ("after", 0, 1, 10 ** 4)), True)
        self.assertIs(can_be_done(((0, 10 ** 4, 1), (1, 0, 1), (0, 1, 1)), ("after", 0, 1, 10 ** 4 + 1)), False)

    def test_what_cannot_be_done(self):
        for web, deed in ((TWO_STEPS, ("before", 1, 0, 1)), (LOOPS, ("pass", 0)), (G, ("pass", 0)),
                          (G, ("stretch", 1, 1)), (EIGHT, ("stretch", 0, 1)), (LONG_RING, ("after", 0, 2, 1)),
                          (G, ("after", 0, 1, 1)), (G, ("before", 1, 0, 1)), (((1, 1), (1, 1)), ("unafter", 0, 1, 2))):
            self.assertIs(taken.done(web, deed), None)
            self.check(web, deed)

    def test_great_items(self):
        for deed in taken.all_deeds(HUGE, (1, 10 ** 4)):
            if can_be_done(HUGE, deed):
                web = done(HUGE, deed)
                self.assertTrue(plainly.is_web(web))
        self.assertEqual(done(HUGE, ("after", 0, 2, 1)), ((10 ** 40 - 1, 7, 0), (3, 0, 10 ** 39), (0, 7, 0)))
        self.assertEqual(done(HUGE, ("pass", 1)), ((10 ** 40 - 1, 1), (21, 7 * 10 ** 39)))
        self.assertEqual(done(FULL, ("after", 4, 0, 10 ** 4))[4], (50006, 60006, 60006, 60006, 60006))

    def test_turn(self):
        source = random.Random(602)
        for web in WEBS:
            order = tuple(source.sample(range(len(web)), len(web)))
            self.assertEqual(done(web, ("turn", order)), renamed_web(web, order))


class Deeds(unittest.TestCase):
    def test_no_deeds(self):
        for thing in NO_DEEDS:
            self.assertIs(is_deed(G, thing), False, thing)
            self.assertIs(can_be_done(G, thing), False, thing)
            with self.assertRaises(BadDeed) as caught:
                done(G, thing)
            self.assertIs(caught.exception.thing, thing)

    def test_values_of_all_kinds(self):
        for web in (G, LOOPS, ((1, 2, 1), (1, 1, 2), (3, 0, 1))):
            for deed in tuple(taken.all_deeds(web, (1, 3))):
                for thing in [deed, list(deed), deed + (1,), deed[:-1]] + changed_once(deed):
                    self.assertIs(is_deed(web, thing), taken.is_deed(web, thing), thing)
            for thing in ANY_VALUES:
                self.assertIs(is_deed(web, thing), False)
                self.assertIs(can_be_done(web, thing), False)

    def test_bad_deed_ahead_of_no_deed(self):
        for thing in (("after", 1, 1, 1), ("after", 1, 2, 0), ("pass", 2)):
            with self.assertRaises(BadDeed):
                done(G, thing)
        for function in (is_deed, can_be_done, done, made):
            for web in NO_WEBS + (None, [[2]]):
                with self.assertRaises(BadWeb) as caught:
                    function(web, ("pass", 7))
                self.assertIs(caught.exception.thing, web)


class Chains(unittest.TestCase):
    def random_chain(self, source, web, many):
        chain = []
        for _ in range(many):
            deeds = list(taken.all_deeds(web, (1, 2, 9)))
            source.shuffle(deeds)
            deed = next(deed for deed in deeds if can_be_done(web, deed))
            web = done(web, deed)
            chain.append(deed)
        return tuple(chain), web

    def test_one_behind_another(self):
        source = random.Random(603)
        for web in WEBS:
            chain, last = self.random_chain(source, web, 8)
            self.assertEqual(made(web, chain), last)
            for at in range(len(chain)):
                self.assertEqual(made(made(web, chain[:at]), chain[at:]), last)

    def test_bad_chains(self):
        source = random.Random(604)
        for web in WEBS[:15]:
            chain, last = self.random_chain(source, web, 6)
            for at in range(len(chain) + 1):
                here = made(web, chain[:at])
                no_deed = next(deed for deed in taken.all_deeds(here, (1,)) if not can_be_done(here, deed))
                for wrong in (no_deed, None, ("pass", 8), list(no_deed), ("pass", True), (), "pass", chain):
                    for behind in ((), chain[at:], (None,)):
                        with self.assertRaises(BadChain) as caught:
                            made(web, chain[:at] + (wrong,) + behind)
                        self.assertEqual(vars(caught.exception), {"number": at})

    def test_no_tuple(self):
        for thing in (None, [], [("pass", 1)], "", 0, True, {}, {("pass", 1): 1}):
            with self.assertRaises(BadChain) as caught:
                made(G, thing)
            self.assertEqual(vars(caught.exception), {"number": -1})
        with self.assertRaises(BadChain) as caught:
            made(G, ("pass", 1))
        self.assertEqual(caught.exception.number, 0)

    def test_a_deed_of_another_web_on_the_way(self):
        with self.assertRaises(BadChain) as caught:
            made(G, (("pass", 1), ("turn", (1, 0))))
        self.assertEqual(caught.exception.number, 1)
        with self.assertRaises(BadChain) as caught:
            made(G, (("pass", 1), ("stretch", 0, 0), ("stretch", 0, 1), ("after", 0, 1, 1)))
        self.assertEqual(caught.exception.number, 3)

    def test_largest(self):
        source = random.Random(605)
        for _ in range(25):
            web = random_web(source, 5, 6, 200)
            chain, last = self.random_chain(source, web, 40)
            self.assertEqual(made(web, chain), last)


if __name__ == "__main__":
    unittest.main()
