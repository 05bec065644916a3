"""[6.1], [6.2] and [6.4]: walks that stand for arrows, and rounds and prices that deeds lead along."""

import random
import unittest

from otherpace.carrying import (
    carried, carried_back, chain_carried, chain_carried_back, prices_carried, walks_of)
from otherpace.deeds import can_be_done, done, made
from otherpace.errors import BadChain, BadDeed, BadPrices, BadRound, BadWeb, NoDeed, NoPrices, TooMany
from otherpace.walks import is_told_round, rounds, told_form
from tests import plainly, taken
from tests.samples import (
    ANY_VALUES, EIGHT, G, LONG_RING, LOOPS, TWO_STEPS, changed_once, random_round, random_row, random_web, random_webs)

AFTER = ((1, 2), (1, 0))
WEBS = [G, LOOPS, TWO_STEPS, AFTER, LONG_RING, EIGHT, ((2, 1), (1, 0)), ((1, 2, 1), (1, 1, 2), (3, 0, 1)),
        ((0, 1, 1), (2, 0, 0), (1, 0, 1))] + random_webs(611, 12, rooms=4, item=3, most_arrows=12)
FINER_RESULT = ("unafter", "unbefore", "stretch")
PRICED = ("after", "before", "pass", "turn", "stretch")


def cases(times=(1, 2, 3)):
    for web in WEBS:
        for deed in taken.all_deeds(web, times):
            if can_be_done(web, deed):
                yield web, deed, done(web, deed)


def told(web, most_length=4, most=40):
    """Some told rounds of small lengths."""
    found = []
    for length in range(1, most_length + 1):
        found.extend(rounds(web, length, most=10 ** 6)[:most])
    return found


class Walks(unittest.TestCase):
    def test_examples(self):
        self.assertEqual(walks_of(AFTER, ("after", 0, 1, 1)), (
            ((0, 0, 0),), ((0, 1, 0), (1, 0, 0)), ((0, 1, 1),), ((1, 0, 0),)))
        self.assertEqual(walks_of(LOOPS, ("stretch", 0, 0)), (((0, 1, 0), (1, 0, 0)), ((0, 0, 0),)))
        self.assertEqual(walks_of(G, ("pass", 1)), (((0, 0, 0),), ((0, 1, 0), (1, 0, 0))))
        self.assertEqual(walks_of(TWO_STEPS, ("turn", (1, 0))), (((1, 0, 0),), ((0, 1, 0),), ((0, 1, 1),)))

    def test_sequence_of_new_arrows(self):
        web = ((0, 2, 1), (0, 0, 2), (3, 0, 0))
        self.assertEqual(walks_of(web, ("pass", 1)), (
            ((0, 2, 0),), ((0, 1, 0), (1, 2, 0)), ((0, 1, 0), (1, 2, 1)), ((0, 1, 1), (1, 2, 0)),
            ((0, 1, 1), (1, 2, 1)), ((2, 0, 0),), ((2, 0, 1),), ((2, 0, 2),)))
        self.assertEqual(walks_of(web, ("after", 0, 1, 1)), (
            ((0, 1, 1),), ((0, 2, 0),), ((0, 1, 0), (1, 2, 0)), ((0, 1, 0), (1, 2, 1)),
            ((1, 2, 0),), ((1, 2, 1),), ((2, 0, 0),), ((2, 0, 1),), ((2, 0, 2),)))
        self.assertEqual(walks_of(web, ("before", 0, 1, 1)), (
            ((0, 1, 1),), ((0, 2, 0),), ((1, 2, 0),), ((1, 2, 1),), ((2, 0, 0),), ((2, 0, 1),), ((2, 0, 2),),
            ((2, 0, 0), (0, 1, 0)), ((2, 0, 1), (0, 1, 0)), ((2, 0, 2), (0, 1, 0))))

    def test_several_times(self):
        # The arrow from 1 to 1 is put behind each arrow that is taken out, and so is in the next one.
        web = ((1, 1), (1, 1))
        self.assertEqual(walks_of(web, ("after", 0, 1, 3)), (
            ((0, 0, 0),), ((0, 1, 0), (1, 0, 0)), ((0, 1, 0), (1, 1, 0), (1, 0, 0)),
            ((0, 1, 0), (1, 1, 0), (1, 1, 0), (1, 0, 0)), ((0, 1, 0), (1, 1, 0), (1, 1, 0), (1, 1, 0)),
            ((1, 0, 0),), ((1, 1, 0),)))
        self.assertEqual(walks_of(web, ("before", 1, 0, 2)), (
            ((0, 0, 0),), ((0, 1, 0), (1, 0, 0)), ((0, 1, 0), (1, 1, 0), (1, 0, 0)), ((0, 1, 0),),
            ((1, 1, 0), (1, 1, 0), (1, 0, 0)), ((1, 1, 0),)))

    def test_arrow_by_arrow(self):
        for web, deed, _ in cases((1, 2, 3, 20)):
            self.assertEqual(walks_of(web, deed), taken.standing(web, deed), (web, deed))


class Rounds(unittest.TestCase):
    def test_examples(self):
        self.assertEqual(carried(LOOPS, ("stretch", 0, 0), ((0, 0, 0), (0, 0, 1))), ((0, 0, 0), (0, 1, 0), (1, 0, 0)))
        self.assertEqual(carried_back(LOOPS, ("stretch", 0, 0), ((0, 0, 0), (0, 1, 0), (1, 0, 0))),
                         ((0, 0, 0), (0, 0, 1)))
        self.assertEqual(carried(G, ("pass", 1), ((0, 1, 0), (1, 0, 0))), ((0, 0, 1),))
        self.assertEqual(carried(AFTER, ("after", 0, 1, 1), ((0, 1, 0), (1, 0, 0))), ((0, 0, 1),))

    def test_there_and_back(self):
        for web, deed, result in cases():
            walks = taken.standing(web, deed)
            led = {}
            for lap in told(web):
                found = carried(web, deed, lap)
                self.assertTrue(is_told_round(result, found))
                self.assertEqual(carried_back(web, deed, found), lap)
                if deed[0] in FINER_RESULT:
                    self.assertEqual(taken.image_round(lap, walks, web), found)
                else:
                    self.assertEqual(taken.image_round(found, walks, result), lap)
                led[found] = lap
            self.assertEqual(len(led), len(set(led.values())))
            for lap in told(result, 3):
                found = carried_back(web, deed, lap)
                self.assertTrue(is_told_round(web, found))
                self.assertEqual(carried(web, deed, found), lap)

    def test_long_rounds(self):
        source = random.Random(612)
        for web, deed, result in list(cases((1, 20)))[::9]:
            lap = told_form(web, random_round(source, web, 1500))[0]
            found = carried(web, deed, lap, most=10 ** 6)
            self.assertTrue(is_told_round(result, found))
            self.assertEqual(carried_back(web, deed, found), lap)

    def test_done_several_times_or_one_by_one(self):
        source = random.Random(613)
        for web in WEBS:
            for deed in taken.all_deeds(web, (2, 3, 20)):
                if len(deed) == 4 and can_be_done(web, deed):
                    lap = told_form(web, random_round(source, web, 20))[0]
                    chain = (deed[:3] + (1,),) * deed[3]
                    found = carried(web, deed, lap, most=10 ** 5)
                    self.assertEqual(chain_carried(web, chain, lap, most=10 ** 5), found)
                    self.assertEqual(chain_carried_back(web, chain, found), lap)

    def test_most(self):
        for web, deed, _ in list(cases())[::3]:
            for lap in told(web, 3, 4):
                found = carried(web, deed, lap)
                for one, other, function in ((lap, found, carried), (found, lap, carried_back)):
                    self.assertEqual(function(web, deed, one, most=len(other)), other)
                    for most in (len(other) - 1, 0):
                        with self.assertRaises(TooMany) as caught:
                            function(web, deed, one, most=most)
                        self.assertEqual(vars(caught.exception), {"most": most})

    def test_4096_arrows(self):
        for many, fits in ((4095, True), (4096, False)):
            # Only the first arrow becomes longer.
            lap = ((0, 0, 0),) + ((0, 0, 1),) * (many - 1)
            if fits:
                self.assertEqual(len(carried(LOOPS, ("stretch", 0, 0), lap)), 4096)
                continue
            with self.assertRaises(TooMany) as caught:
                carried(LOOPS, ("stretch", 0, 0), lap)
            self.assertEqual(caught.exception.most, 4096)

    def test_far_too_many(self):
        # The walk of each arrow would have 10^30 arrows.
        web = done(((1, 1), (1, 1)), ("after", 0, 1, 10 ** 30))
        lap = ((0, 0, 10 ** 30),)
        for most in (4096, 10):
            with self.assertRaises(TooMany) as caught:
                carried(web, ("unafter", 0, 1, 10 ** 30), lap, most=most)
            self.assertEqual(caught.exception.most, most)
        with self.assertRaises(TooMany) as caught:
            chain_carried(web, (("unafter", 0, 1, 10 ** 30), ("turn", (1, 0))), lap, most=10)
        self.assertEqual(caught.exception.most, 10)
        self.assertEqual(carried(((1, 1), (1, 1)), ("after", 0, 1, 10 ** 30), ((0, 1, 0), (1, 0, 0))), ((0, 0, 1),))


class Chains(unittest.TestCase):
    def test_deed_by_deed(self):
        source = random.Random(614)
        for web in WEBS:
            for _ in range(4):
                webs, chain, laps = [web], [], [told_form(web, random_round(source, web, 9))[0]]
                for _ in range(5):
                    deeds = [deed for deed in taken.all_deeds(webs[-1], (1, 2)) if can_be_done(webs[-1], deed)]
                    deed = source.choice(deeds)
                    laps.append(carried(webs[-1], deed, laps[-1], most=10 ** 5))
                    chain.append(deed)
                    webs.append(done(webs[-1], deed))
                for at in range(6):
                    self.assertEqual(chain_carried(web, tuple(chain[:at]), laps[0], most=10 ** 5), laps[at])
                    self.assertEqual(chain_carried_back(web, tuple(chain[:at]), laps[at], most=10 ** 5), laps[0])

    def test_most_is_about_the_last_round_only(self):
        chain = (("stretch", 0, 0), ("pass", 1))
        lap = ((0, 0, 0), (0, 0, 1), (0, 0, 1))
        found = ((0, 0, 0), (0, 0, 0), (0, 0, 1))
        self.assertEqual(chain_carried(LOOPS, chain, lap, most=3), found)
        self.assertEqual(chain_carried_back(LOOPS, chain, found, most=3), lap)
        for function, passed in ((chain_carried, lap), (chain_carried_back, found)):
            with self.assertRaises(TooMany) as caught:
                function(LOOPS, chain, passed, most=2)
            self.assertEqual(caught.exception.most, 2)

    def test_empty_chain(self):
        lap = ((0, 1, 0), (1, 0, 0))
        self.assertEqual(chain_carried(G, (), lap), lap)
        self.assertEqual(chain_carried_back(G, (), lap), lap)
        with self.assertRaises(TooMany):
            chain_carried(G, (), lap, most=1)

    def test_forty_deeds_and_long_rounds(self):
        source = random.Random(615)
        for _ in range(8):
            web = random_web(source, 4, 3, 16)
            chain, last = [], web
            while len(chain) < 40:
                deeds = [("turn", tuple(source.sample(range(len(last)), len(last)))), ("stretch", 0, 1), ("pass", 0),
                         ("after", 0, 1, 2), ("before", 1, 0, 1), ("unafter", 1, 0, 1), ("unbefore", 0, 1, 3)]
                deed = source.choice([deed for deed in deeds if can_be_done(last, deed)])
                if max(map(max, done(last, deed))) < 10 ** 9:
                    chain.append(deed)
                    last = done(last, deed)
            lap = told_form(web, random_round(source, web, 2000))[0]
            found = chain_carried(web, tuple(chain), lap, most=10 ** 6)
            self.assertTrue(is_told_round(last, found))
            self.assertEqual(chain_carried_back(web, tuple(chain), found), lap)


class Prices(unittest.TestCase):
    def test_example(self):
        self.assertEqual(prices_carried(G, ("pass", 1), (5, 2, 1)), (5, 3))
        self.assertEqual(prices_carried(LOOPS, ("stretch", 0, 0), (5, 7)), (7, 5, 0))
        self.assertEqual(prices_carried(G, ("turn", (1, 0)), (5, 2, 1)), (1, 2, 5))

    def test_each_arrow_has_the_price_of_its_walk(self):
        source = random.Random(616)
        for web, deed, result in cases((1, 2, 20)):
            if deed[0] not in PRICED:
                continue
            prices = random_row(source, web, -10 ** 6, 10 ** 6)
            found = prices_carried(web, deed, prices)
            if deed[0] == "stretch":
                plain = dict(zip(plainly.arrows(web), prices))
                named = dict(zip(plainly.arrows(result), found))
                for arrow, walk in zip(plainly.arrows(web), taken.standing(web, deed)):
                    self.assertEqual([named[step] for step in walk], [plain[arrow], 0][:len(walk)])
            else:
                walks = taken.standing(web, deed)
                self.assertEqual(found, tuple(plainly.price(web, prices, walk) for walk in walks))

    def test_each_round_keeps_its_price(self):
        source = random.Random(617)
        for web, deed, result in cases():
            if deed[0] in PRICED:
                prices = random_row(source, web, -99, 99)
                led = prices_carried(web, deed, prices)
                for lap in told(web, 4, 5):
                    found = carried(web, deed, lap)
                    self.assertEqual(plainly.price(result, led, found), plainly.price(web, prices, lap))

    def test_no_prices_behind_all_others(self):
        web = ((2, 3), (2, 3))
        for deed in (("unafter", 0, 1, 1), ("unbefore", 0, 1, 1)):
            self.assertTrue(can_be_done(web, deed))
            with self.assertRaises(NoPrices) as caught:
                prices_carried(web, deed, tuple(range(10)))
            self.assertIs(caught.exception.deed, deed)
            for prices in (tuple(range(9)), list(range(10)), None, (True,) * 10):
                with self.assertRaises(BadPrices) as caught:
                    prices_carried(web, deed, prices)
                self.assertIs(caught.exception.thing, prices)
            with self.assertRaises(NoDeed):
                prices_carried(G, deed[:3] + (9,), None)
            with self.assertRaises(BadDeed):
                prices_carried(G, deed[:3] + (0,), None)


class Errors(unittest.TestCase):
    def test_bad_rounds(self):
        lap = ((0, 0, 1), (0, 1, 0), (1, 0, 0))
        for thing in changed_once(lap) + list(ANY_VALUES) + [lap * 2, lap[1:] + lap[:1], lap[:2]]:
            result = ((2, 1), (1, 0))
            if not plainly.is_told_round(result, thing):
                with self.assertRaises(BadRound) as caught:
                    carried_back(AFTER, ("after", 0, 1, 1), thing)
                self.assertIs(caught.exception.thing, thing)
                with self.assertRaises(BadRound) as caught:
                    chain_carried_back(AFTER, (("after", 0, 1, 1),), thing)
                self.assertIs(caught.exception.thing, thing)
            if not plainly.is_told_round(AFTER, thing):
                with self.assertRaises(BadRound) as caught:
                    carried(AFTER, ("after", 0, 1, 1), thing, most=0)
                self.assertIs(caught.exception.thing, thing)
                with self.assertRaises(BadRound) as caught:
                    chain_carried(AFTER, (), thing, most=0)
                self.assertIs(caught.exception.thing, thing)

    def test_sequence(self):
        for function in (walks_of, carried, carried_back, prices_carried):
            rest = () if function is walks_of else (None,)
            with self.assertRaises(BadWeb):
                function([[2]], None, *rest)
            with self.assertRaises(BadDeed):
                function(G, ("after", 0, 0, 1), *rest)
            with self.assertRaises(NoDeed):
                function(G, ("after", 0, 1, 1), *rest)
        for function in (chain_carried, chain_carried_back):
            with self.assertRaises(BadWeb):
                function([[2]], None, None)
            with self.assertRaises(BadChain) as caught:
                function(G, (("turn", (0, 1)), ("after", 0, 1, 1)), None)
            self.assertEqual(caught.exception.number, 1)
            with self.assertRaises(BadChain) as caught:
                function(G, [], None)
            self.assertEqual(caught.exception.number, -1)

    def test_returned_chains_and_webs(self):
        web = made(G, (("stretch", 0, 0), ("stretch", 1, 0), ("stretch", 2, 0), ("stretch", 3, 0)))
        self.assertEqual(len(web), 6)
        for lap in told(web, 8):
            self.assertEqual(carried_back(web, ("pass", 5), carried(web, ("pass", 5), lap)), lap)


if __name__ == "__main__":
    unittest.main()
