"""[3.3]: simple rounds, and papers that tell which counts are sums of theirs."""

import random
import unittest

from otherpace.counts import is_simple, judge_sum, simple_rounds, sum_holds
from otherpace.errors import BadCounts, BadWeb
from tests import plainly, right
from tests.samples import ANY_VALUES, EIGHT, G, LOOPS, TWO_STEPS, changed_once, random_round, random_row, random_webs
from tests.test_counts import APART, FOUR, FULL_FOUR, RING, SMALL, WEBS, small_counts

HOME, OUT, BACK = (0, 0, 0), (0, 1, 0), (1, 0, 0)


class SimpleRounds(unittest.TestCase):
    def test_example(self):
        self.assertEqual(simple_rounds(G), ((HOME,), (OUT, BACK)))
        self.assertEqual(simple_rounds(LOOPS), (((0, 0, 0),), ((0, 0, 1),)))
        self.assertEqual(simple_rounds(TWO_STEPS), (((0, 1, 0), (1, 0, 0)), ((0, 1, 1), (1, 0, 0))))

    def test_all(self):
        for web in WEBS + (EIGHT,) + tuple(random_webs(121, 20, rooms=4, item=2)):
            found = simple_rounds(web)
            self.assertEqual(found, plainly.simple_rounds(web))
            self.assertIs(type(found), tuple)

    def test_most(self):
        self.assertEqual(len(simple_rounds(RING)), 256)
        self.assertEqual(len(simple_rounds(FULL_FOUR)), 24)

    def test_whether(self):
        for lap in ((HOME,), (OUT, BACK), (BACK, OUT)):
            self.assertIs(is_simple(G, lap), True)
        for lap in ((HOME, HOME), (HOME, OUT, BACK), (OUT, BACK, OUT, BACK), (OUT,), (BACK,), (), HOME, [HOME],
                    (OUT, BACK, HOME), (BACK, HOME, OUT)):
            self.assertIs(is_simple(G, lap), False)
        # Each turn of a simple round is one.
        self.assertIs(is_simple(APART, ((1, 2, 0), (2, 0, 0), (0, 1, 0))), True)

    def test_values_of_all_kinds(self):
        source = random.Random(122)
        for web in SMALL:
            laps = [random_round(source, web, 4) for _ in range(5)]
            for thing in ANY_VALUES + tuple(thing for lap in laps for thing in changed_once(lap)) + tuple(laps):
                expected = plainly.is_round(web, thing) and len({arrow[0] for arrow in thing}) == len(thing)
                self.assertIs(is_simple(web, thing), expected, thing)


class Sums(unittest.TestCase):
    def test_examples(self):
        self.assertEqual(judge_sum(G, (1, 2, 2)), ("sum", ((HOME,), (OUT, BACK), (OUT, BACK))))
        self.assertEqual(judge_sum(G, (0, 0, 0)), ("sum", ()))
        self.assertEqual(judge_sum(G, (1, 1, 0))[0], "uneven")

    def test_all_small_counts(self):
        for web in SMALL:
            for row in small_counts(web, 5 if len(web) < 3 else 4):
                even = all(begun == ended for begun, ended in
                           [right.sums_at(web, row, room) for room in range(len(web))])
                paper = judge_sum(web, row)
                self.assertEqual(paper[0], "sum" if even else "uneven")
                self.assertTrue(right.made_up(web, row, paper), (web, row, paper))
                self.assertIs(sum_holds(web, row, paper), True)

    def test_even_counts_in_parts_and_long_rounds(self):
        source = random.Random(123)
        for web in WEBS:
            for _ in range(10):
                laps = [source.choice(plainly.simple_rounds(web)) for _ in range(source.randint(0, 10))]
                row = right.counted(web, [arrow for lap in laps for arrow in lap])
                paper = judge_sum(web, row)
                self.assertEqual(paper[0], "sum")
                self.assertTrue(right.made_up(web, row, paper))
                self.assertIs(sum_holds(web, row, ("sum", tuple(sorted(laps)))), True)
                row = right.counted(web, random_round(source, web, 40))
                self.assertTrue(right.made_up(web, row, judge_sum(web, row)))

    def test_uneven(self):
        source = random.Random(124)
        for web in WEBS:
            for _ in range(10):
                row = random_row(source, web, 0, 2)
                paper = judge_sum(web, row)
                self.assertTrue(right.made_up(web, row, paper))
                for room in range(-1, len(web) + 1):
                    self.assertIs(sum_holds(web, row, ("uneven", room)), right.uneven(web, row, ("uneven", room)))

    def test_several_right_sums(self):
        # Both rounds through the rooms in turn, or both there and back again.
        web = ((0, 1, 1), (1, 0, 1), (1, 1, 0))
        row = (1,) * 6
        turned = (((0, 1, 0), (1, 2, 0), (2, 0, 0)), ((0, 2, 0), (2, 1, 0), (1, 0, 0)))
        pairs = (((0, 1, 0), (1, 0, 0)), ((0, 2, 0), (2, 0, 0)), ((1, 2, 0), (2, 1, 0)))
        for laps in (turned, pairs):
            self.assertIs(sum_holds(web, row, ("sum", laps)), True)
            self.assertIs(sum_holds(web, row, ("sum", laps[::-1])), False)
            self.assertIs(sum_holds(web, row, ("sum", laps[:-1])), False)
            self.assertIs(sum_holds(web, row, ("sum", laps + laps[-1:])), False)

    def test_rounds_that_do_not_fit(self):
        for laps, holds in ((((HOME,), (HOME,), (OUT, BACK)), True), (((HOME,), (HOME,), (BACK, OUT)), False),
                            (((HOME, HOME), (OUT, BACK)), False), (((HOME,), (HOME, OUT, BACK)), False),
                            (((HOME, HOME, OUT, BACK),), False), (((HOME,), (OUT, BACK), (HOME,)), False),
                            (((OUT, BACK), (HOME,), (HOME,)), False), (((HOME,), (OUT, BACK)), False),
                            (((HOME,), (HOME,), (OUT, BACK), (OUT, BACK)), False), ((), False),
                            ([(HOME,), (HOME,), (OUT, BACK)], False), (((HOME,), (HOME,), [OUT, BACK]), False)):
            self.assertIs(sum_holds(G, (2, 1, 1), ("sum", laps)), holds, laps)
        self.assertIs(sum_holds(G, (0, 2, 2), ("sum", ((OUT, BACK, OUT, BACK),))), False)
        self.assertIs(sum_holds(G, (0, 2, 2), ("sum", ((OUT, BACK),) * 2)), True)
        self.assertIs(sum_holds(G, (0, 0, 0), ("sum", ())), True)
        self.assertIs(sum_holds(G, (0, 0, 0), ("nought",)), False)

    def test_sixty_rounds(self):
        laps = ((HOME,),) * 30 + ((OUT, BACK),) * 30
        self.assertIs(sum_holds(G, (30, 30, 30), ("sum", laps)), True)
        self.assertIs(sum_holds(G, (30, 30, 29), ("sum", laps)), False)
        self.assertIs(sum_holds(G, (31, 30, 30), ("sum", laps)), False)

    def test_values_of_all_kinds(self):
        for web, row in ((G, (1, 2, 2)), (G, (1, 1, 0)), (G, (0, 0, 0)), (FOUR, (1, 1, 1, 0, 0, 0, 0, 0, 1))):
            papers = (judge_sum(web, row), ("sum", ()), ("uneven", 0), ("uneven", 1), ("sum", ((HOME,),)),
                      ("uneven", False))
            for paper in papers:
                for thing in (paper, list(paper), paper[:1], paper + (0,)) + tuple(changed_once(paper)) + ANY_VALUES:
                    self.assertIs(sum_holds(web, row, thing), right.made_up(web, row, thing), (row, thing))


class WrongArguments(unittest.TestCase):
    def test_bad_web_and_counts(self):
        for thing in ((1, 1), (1, 1, -1), (1, 1, True), [1, 1, 1], None, (1, 1, "1")):
            for function, rest in ((judge_sum, ()), (sum_holds, (("sum", ()),))):
                with self.assertRaises(BadCounts) as caught:
                    function(G, thing, *rest)
                self.assertIs(caught.exception.thing, thing)
                with self.assertRaises(BadWeb):
                    function(thing, thing, *rest)
            with self.assertRaises(BadWeb) as caught:
                simple_rounds(thing)
            self.assertIs(caught.exception.thing, thing)
            with self.assertRaises(BadWeb) as caught:
                is_simple(thing, thing)
            self.assertIs(caught.exception.thing, thing)


if __name__ == "__main__":
    unittest.main()
