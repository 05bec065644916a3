"""[8.1], [8.2], [8.4] and [8.5]: webs that are alike but for paces."""

import itertools
import random
import unittest

from otherpace.alike import alike_holds, are_alike, gone_over, judge_alike, plain_chain
from otherpace.carrying import chain_carried, chain_carried_back
from otherpace.deeds import can_be_done, done
from otherpace.errors import BadPaper, BadRooms, BadRound, BadWeb, TooMany
from otherpace.groups import count_of
from otherpace.stretching import stretched
from otherpace.walks import is_told_round, rounds
from otherpace.webs import renamed_web, turned_web
from tests import plainly, right, taken
from tests.samples import (
    ANY_VALUES, EIGHT, G, LOOPS, NO_WEBS, TWO_STEPS, changed_once, random_web, random_webs)

SIGN_1 = ((2, 1), (1, 3))
WEBS = [G, LOOPS, ((3,),), ((5,),), TWO_STEPS, SIGN_1, ((1, 1), (1, 1)), ((2, 1), (1, 2)), ((3, 2), (2, 3)),
        ((0, 4), (4, 0)), ((1, 2), (2, 1)), ((0, 4, 0, 0), (0, 0, 4, 0), (0, 0, 0, 4), (4, 0, 0, 0)),
        ((4,) * 4,) * 4, ((2, 1, 1), (1, 2, 1), (1, 1, 2)), ((0, 4, 4), (4, 0, 4), (4, 4, 0)),
        ((0, 1, 1), (2, 0, 0), (1, 0, 1))] + random_webs(811, 70, rooms=4, item=4)
GROUPS = {web: right.group(web) for web in WEBS}


class Alike(unittest.TestCase):
    def test_examples(self):
        self.assertIs(are_alike(G, LOOPS), True)
        self.assertIs(alike_holds(G, LOOPS, ("alike", (("pass", 1),), ())), True)
        self.assertIs(alike_holds(G, ((3,),), ("count", 2, 1, 2)), True)
        self.assertEqual(judge_alike(G, ((3,),))[0], "count")
        self.assertEqual(judge_alike(G, SIGN_1), ("sign", -1, 1))

    def test_all_pairs(self):
        kinds = {"alike": 0, "count": 0, "sign": 0}
        for one, other in itertools.product(WEBS[::2], WEBS):
            alike = GROUPS[one] == GROUPS[other]
            self.assertIs(are_alike(one, other), alike)
            paper = judge_alike(one, other)
            kinds[paper[0]] += 1
            self.assertEqual(paper[0] == "alike", alike)
            self.assertIs(alike_holds(one, other, paper), True)
            self.assertTrue(right.alike(one, other, paper), (one, other, paper))
            if paper[0] == "count":
                self.assertNotEqual(GROUPS[one][0], GROUPS[other][0])
                self.assertEqual(paper[2:], (count_of(one, paper[1]), count_of(other, paper[1])))
        self.assertGreater(min(kinds.values()), 10)

    def test_counts_of_all_divisors(self):
        # Diagonal tables give each group; the first room has many arrows to all others.
        rows = [(), (2,), (3,), (4,), (0,), (2, 2), (2, 4), (2, 0), (4, 0), (0, 0), (6, 6), (12,), (6, 0)]
        webs = [right.plain_web(4, row, 0 if 0 in row else 1) for row in rows]
        for (one, row), (other, other_row) in itertools.permutations(zip(webs, rows), 2):
            paper = judge_alike(one, other)
            self.assertEqual(paper[0], "count", (row, other_row))
            self.assertGreaterEqual(paper[1], 2)
            self.assertTrue(right.alike(one, other, paper))

    def test_turned_renamed_stretched(self):
        source = random.Random(812)
        for web in WEBS:
            order = tuple(source.sample(range(len(web)), len(web)))
            times = [1] * len(plainly.arrows(web))
            for _ in range(source.randint(0, 4 - len(web))):
                times[source.randrange(len(times))] += 1
            for other in (turned_web(web), renamed_web(web, order), stretched(web, tuple(times))):
                self.assertIs(are_alike(web, other), True)
                paper = judge_alike(web, other)
                self.assertEqual(paper[0], "alike")
                self.assertTrue(right.alike(web, other, paper))

    def test_changed_by_deeds(self):
        source = random.Random(813)
        for web in WEBS[:40]:
            other = web
            for _ in range(6):
                deeds = list(taken.all_deeds(other, (1, 2)))
                source.shuffle(deeds)
                deed = next(deed for deed in deeds if can_be_done(other, deed))
                if len(done(other, deed)) <= 5:
                    other = done(other, deed)
            paper = judge_alike(web, other)
            self.assertEqual(paper[0], "alike")
            self.assertTrue(right.alike(web, other, paper))
            self.assertIs(alike_holds(web, other, paper), True)

    def test_one_room(self):
        for m in range(2, 40):
            for web in WEBS:
                expected = GROUPS[web] == ((m - 1,) if m > 2 else (), -1)
                self.assertIs(are_alike(web, ((m,),)), expected)
                self.assertEqual(judge_alike(((m,),), web)[0] == "alike", expected)

    def test_eight_rooms(self):
        self.assertIs(are_alike(EIGHT, G), True)
        self.assertIs(alike_holds(EIGHT, G, judge_alike(EIGHT, G)), True)


class Papers(unittest.TestCase):
    def test_several_chains(self):
        for chains, holds in (
                (((("pass", 1),), ()), True), (((), (("stretch", 0, 0),)), True), (((), ()), False),
                (((("turn", (1, 0)),), (("stretch", 0, 0),)), False),
                (((("turn", (1, 0)),), (("stretch", 0, 0), ("turn", (1, 0)))), True),
                (((("pass", 0),), ()), False), (((("pass", 1), None), ()), False), (([("pass", 1)], ()), False),
                (((("pass", 1),), []), False), ((("pass", 1), ()), False), (((["pass", 1],), ()), False),
                (((("pass", 1),) * 2, ()), False), (((("pass", 1),), (("turn", (0,)),)), True), ((None, None), False)):
            self.assertIs(alike_holds(G, LOOPS, ("alike",) + chains), holds, chains)
            self.assertIs(right.alike(G, LOOPS, ("alike",) + chains), holds, chains)

    def test_deeds_done_many_times(self):
        web = ((2, 1), (1, 2))
        chain = (("after", 0, 1, 10 ** 4), ("before", 1, 0, 10 ** 4), ("unbefore", 1, 0, 9999))
        other = (("after", 0, 1, 10 ** 4), ("before", 1, 0, 1))
        self.assertIs(alike_holds(web, web, ("alike", chain, other)), True)
        self.assertIs(alike_holds(web, web, ("alike", chain, other[:1] + (("before", 1, 0, 2),))), False)
        huge = (("after", 0, 1, 10 ** 39), ("unafter", 0, 1, 10 ** 39))
        self.assertIs(alike_holds(web, web, ("alike", huge, ())), True)

    def test_counts_and_signs(self):
        for other, thing, holds in (
                (((3,),), ("count", 2, 1, 2), True), (((3,),), ("count", 4, 1, 2), True),
                (((3,),), ("count", 3, 1, 1), False), (((3,),), ("count", 1, 1, 1), False),
                (((3,),), ("count", 0, 1, 2), False), (((3,),), ("count", -2, 1, 2), False),
                (((3,),), ("count", 2, 2, 1), False), (((3,),), ("count", 2, True, 2), False),
                (((3,),), ("count", True, 1, 2), False), (((3,),), ("count", 10 ** 39, 1, 2), True),
                (((3,),), ("sign", -1, -1), False), (SIGN_1, ("sign", -1, 1), True), (SIGN_1, ("sign", 1, -1), False),
                (SIGN_1, ("sign", -1, True), False), (SIGN_1, ("count", 2, 1, 1), False),
                (((2, 1), (1, 2)), ("sign", -1, 0), True), (((2, 1), (1, 2)), ("sign", -1, False), False),
                (((2, 1), (1, 2)), ("count", 7, 1, 7), True), (LOOPS, ("count", 2, 1, 1), False),
                (LOOPS, ("sign", -1, -1), False)):
            self.assertIs(alike_holds(G, other, thing), holds, thing)
            self.assertIs(right.alike(G, other, thing), holds, thing)

    def test_true_is_no_sign_and_no_count(self):
        for one, other, paper in ((SIGN_1, G, ("sign", 1, -1)), (G, SIGN_1, ("sign", -1, 1)),
                                  (G, ((3,),), ("count", 2, 1, 2)), (((3,),), G, ("count", 2, 2, 1))):
            self.assertIs(alike_holds(one, other, paper), True)
            spoilt = tuple(True if part == 1 else part for part in paper)
            self.assertIs(alike_holds(one, other, spoilt), False)

    def test_values_of_all_kinds(self):
        for one, other in ((G, LOOPS), (G, ((3,),)), (G, SIGN_1), (((2, 1), (1, 2)), ((3,),)), (G, G)):
            papers = (judge_alike(one, other), ("alike", (("pass", 1),), ()), ("count", 6, 1, 2), ("sign", -1, 1),
                      ("alike", (("turn", (1, 0)), ("after", 1, 0, 1)), (("unafter", 0, 1, 1),)))
            for paper in papers:
                for thing in [paper, list(paper), paper[:1], paper + (0,)] + changed_once(paper) + list(ANY_VALUES):
                    if "1" + "0" * 39 not in repr(thing):
                        self.assertIs(alike_holds(one, other, thing), right.alike(one, other, thing), thing)
                    else:
                        self.assertIn(alike_holds(one, other, thing), (True, False))


class PlainChains(unittest.TestCase):
    def test_example(self):
        self.assertEqual(right.chain_made(LOOPS, plain_chain(LOOPS, 1)), LOOPS)

    def test_all_numbers_of_rooms(self):
        for web in WEBS:
            for n in range(len(web), 7 if web in WEBS[:30] else 6):
                chain = plain_chain(web, n)
                self.assertEqual(right.chain_made(web, chain), right.plain_web(n, *GROUPS[web]), (web, n))
                self.assertLess(len(chain), 400)

    def test_plain_already(self):
        for n, group, sense in ((1, (7,), -1), (3, (2, 6), 1), (6, (), -1), (4, (2, 0), 0)):
            web = right.plain_web(n, group, sense)
            self.assertEqual(right.chain_made(web, plain_chain(web, n)), web)

    def test_from_plain_webs(self):
        for n, group, sense in ((1, (7,), -1), (2, (300,), 1), (3, (2, 6), 1), (3, (2, 6), -1), (3, (0, 0), 0),
                                (2, (), -1), (4, (2, 2, 4, 4), 1), (4, (3, 3, 0), 0), (5, (2, 6), -1), (6, (2, 6), 1)):
            for rooms in range(n, 7):
                web = right.plain_web(n, group, sense)
                made = right.chain_made(web, plain_chain(web, rooms))
                self.assertEqual(made, right.plain_web(rooms, group, sense))
                order = tuple(range(n))[::-1]
                other = renamed_web(web, order)
                self.assertEqual(right.chain_made(other, plain_chain(other, rooms)), made)

    def test_more_rooms_and_arrows(self):
        source = random.Random(814)
        for _ in range(12):
            web = random_web(source, source.choice((5, 6)), 6, 400)
            chain = plain_chain(web, 6)
            self.assertEqual(right.group(done_all(web, chain)), right.group(web))
            self.assertEqual(done_all(web, chain), right.plain_web(6, *right.group(web)))

    def test_bad_rooms(self):
        for web in (G, LOOPS, WEBS[11], EIGHT):
            for n in (0, -1, 7, 8, 9, True, None, "3", (3,), [], 10 ** 39, len(web) - 1):
                with self.assertRaises(BadRooms) as caught:
                    plain_chain(web, n)
                self.assertIs(caught.exception.thing, n)


def done_all(web, chain):
    for deed in chain:
        web = done(web, deed)
    return web


class RoundsOver(unittest.TestCase):
    PAPER = ("alike", (("pass", 1),), ())

    def test_examples(self):
        self.assertEqual(gone_over(G, LOOPS, self.PAPER, ((0, 0, 0),)), ((0, 0, 0),))
        self.assertEqual(gone_over(G, LOOPS, self.PAPER, ((0, 1, 0), (1, 0, 0))), ((0, 0, 1),))

    def test_there_and_back(self):
        pairs = [(one, other) for one, other in itertools.product(WEBS, WEBS) if GROUPS[one] == GROUPS[other]]
        for one, other in pairs[::5]:
            paper = judge_alike(one, other)
            back = ("alike", paper[2], paper[1])
            led = []
            laps = [lap for length in (1, 2, 3) for lap in rounds(one, length)[:5]]
            for lap in laps:
                found = gone_over(one, other, paper, lap, most=10 ** 5)
                self.assertTrue(is_told_round(other, found))
                self.assertEqual(gone_over(other, one, back, found), lap)
                shared = chain_carried(one, paper[1], lap, most=10 ** 5)
                self.assertEqual(chain_carried_back(other, paper[2], shared, most=10 ** 5), found)
                led.append(found)
            self.assertEqual(len(set(led)), len(laps))

    def test_all_rounds_of_other(self):
        for one, other, paper in ((G, LOOPS, self.PAPER), (LOOPS, G, ("alike", (("stretch", 0, 0),), ()))):
            for length in range(1, 7):
                for lap in rounds(other, length):
                    came = gone_over(other, one, ("alike", paper[2], paper[1]), lap)
                    self.assertEqual(gone_over(one, other, paper, came), lap)

    def test_most(self):
        lap = ((0, 0, 0), (0, 1, 0), (1, 0, 0))
        self.assertEqual(gone_over(G, LOOPS, self.PAPER, lap, most=2), ((0, 0, 0), (0, 0, 1)))
        back = ("alike", (), (("pass", 1),))
        self.assertEqual(gone_over(LOOPS, G, back, ((0, 0, 0), (0, 0, 1)), most=3), lap)
        for most in (2, 1, 0):
            with self.assertRaises(TooMany) as caught:
                gone_over(LOOPS, G, back, ((0, 0, 0), (0, 0, 1)), most=most)
            self.assertEqual(caught.exception.most, most)
        # The round on the way is longer, and does not count.
        paper = ("alike", (("stretch", 0, 0), ("stretch", 0, 1)), (("stretch", 0, 0), ("stretch", 0, 1)))
        self.assertEqual(gone_over(LOOPS, LOOPS, paper, ((0, 0, 0), (0, 0, 1)), most=2), ((0, 0, 0), (0, 0, 1)))

    def test_bad_papers(self):
        for paper in (("alike", (), ()), ("sign", -1, 1), ("count", 2, 1, 2), None, ("alike", (("pass", 1),)),
                      ["alike", (("pass", 1),), ()], ("alike", (("pass", 1),), (), ()), (), ("alike", [], ())):
            for lap in (((0, 0, 0),), None):
                with self.assertRaises(BadPaper) as caught:
                    gone_over(G, LOOPS, paper, lap, most=0)
                self.assertIs(caught.exception.thing, paper)
        # A right paper, but of another kind.
        for paper, other in ((("sign", -1, 1), SIGN_1), (("count", 2, 1, 2), ((3,),))):
            self.assertIs(alike_holds(G, other, paper), True)
            with self.assertRaises(BadPaper):
                gone_over(G, other, paper, ((0, 0, 0),))

    def test_bad_rounds(self):
        for lap in (((0, 0, 1),), ((1, 0, 0), (0, 1, 0)), ((0, 0, 0),) * 2, None, (), [(0, 0, 0)], ((0, 0, False),)):
            with self.assertRaises(BadRound) as caught:
                gone_over(G, LOOPS, self.PAPER, lap, most=0)
            self.assertIs(caught.exception.thing, lap)

    def test_bad_webs_first(self):
        for thing in NO_WEBS + (None, [[2]]):
            for function, rest in ((are_alike, ()), (judge_alike, ()), (alike_holds, (None,)), (gone_over, (None, None))):
                for args in ((thing, thing), (thing, G), (G, thing)):
                    with self.assertRaises(BadWeb) as caught:
                        function(*args, *rest)
                    self.assertIs(caught.exception.thing, thing)
            with self.assertRaises(BadWeb):
                plain_chain(thing, None)


if __name__ == "__main__":
    unittest.main()
