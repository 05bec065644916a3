"""[1.2]: walks, rounds, told rounds, turns and told forms."""

import itertools
import random
import unittest

from otherpace.errors import BadRound, BadWeb
from otherpace.walks import is_round, is_told_round, is_walk, rounds, told_form, turns
from tests import plainly
from tests.samples import ANY_VALUES, FULL, G, HUGE, LOOPS, NO_WEBS, TWO_STEPS, changed_once, random_round

HOME, OUT, BACK = (0, 0, 0), (0, 1, 0), (1, 0, 0)
THREE = ((0, 1, 1), (2, 0, 0), (1, 0, 1))
SMALL_WEBS = (G, LOOPS, TWO_STEPS, THREE)
SAMPLES = ((HOME,), (OUT, BACK), (BACK, OUT), (HOME, OUT, BACK), (BACK, OUT, BACK, OUT), (OUT, BACK, HOME, HOME))


def random_rounds(seed, many, length=40):
    source = random.Random(seed)
    for _ in range(many):
        web = source.choice(SMALL_WEBS + (FULL,))
        yield web, random_round(source, web, source.randint(length // 2, length))


def nearly_repeated():
    """Rounds of the web of one room with two arrows that repeat a shorter one but for one arrow."""
    for size, times in ((1, 6), (2, 3), (3, 2), (3, 4), (4, 3), (5, 8), (20, 2), (8, 5)):
        part = tuple((0, 0, int(at == 0)) for at in range(size))
        for at in range(size * times):
            lap = list(part * times)
            lap[at] = (0, 0, 1 - lap[at][2])
            yield tuple(lap)
        yield part * times
        yield (part * times)[:-1]
        yield part * times + ((0, 0, 1),)


class Whether(unittest.TestCase):
    def compare(self, web, thing):
        self.assertIs(is_walk(web, thing), plainly.is_walk(web, thing), (web, thing))
        self.assertIs(is_round(web, thing), plainly.is_round(web, thing), (web, thing))
        self.assertIs(is_told_round(web, thing), plainly.is_told_round(web, thing), (web, thing))

    def test_walks(self):
        for walk in ((HOME,), (OUT,), (HOME, HOME, OUT), (BACK, OUT, BACK), (OUT, BACK, HOME)):
            self.assertIs(is_walk(G, walk), True, walk)
        for walk in ((), (OUT, OUT), (BACK, BACK), (OUT, HOME), ((1, 1, 0),), ((0, 0, 1),), ((0, 2, 0),), ((2, 0, 0),),
                     ((0, 0, -1),), ((-1, 0, 0),), ((0, -1, 0),), HOME, [HOME], ([0, 0, 0],), ((0, 0),),
                     ((0, 0, 0, 0),), ((False, 0, 0),), ((0, False, 0),), ((0, 0, False),), ((0, True, 0),)):
            self.assertIs(is_walk(G, walk), False, walk)

    def test_rounds(self):
        for lap in SAMPLES:
            self.assertIs(is_round(G, lap), True, lap)
        for lap in ((), (OUT,), (BACK,), (HOME, OUT), (BACK, OUT, BACK), (OUT, BACK, BACK)):
            self.assertIs(is_round(G, lap), False, lap)

    def test_told_rounds(self):
        for lap in ((HOME,), (OUT, BACK), (HOME, OUT, BACK), (HOME, OUT, BACK, OUT, BACK), (HOME, HOME, OUT, BACK)):
            self.assertIs(is_told_round(G, lap), True, lap)
        for lap in ((HOME, HOME), (BACK, OUT), (OUT, BACK, HOME), (OUT, BACK) * 2, (HOME, OUT, BACK) * 3, (OUT,),
                    (HOME, OUT, BACK, HOME), (OUT, BACK, HOME, OUT, BACK), ()):
            self.assertIs(is_told_round(G, lap), False, lap)

    def test_any_values(self):
        for web in (G, LOOPS, HUGE):
            for thing in ANY_VALUES:
                self.compare(web, thing)

    def test_values_that_are_wrong_in_one_place(self):
        for lap in SAMPLES:
            for thing in changed_once(lap):
                self.compare(G, thing)
                self.compare(TWO_STEPS, thing)

    def test_all_tuples_of_arrows(self):
        for web in SMALL_WEBS:
            for length in range(1, 5):
                for thing in itertools.product(plainly.arrows(web), repeat=length):
                    self.compare(web, thing)

    def test_random_rounds(self):
        for web, lap in random_rounds(5, 100):
            self.compare(web, lap)
            self.compare(web, plainly.told_form(lap)[0])

    def test_nearly_repeated(self):
        for lap in nearly_repeated():
            for turn in plainly.turns(lap):
                self.compare(LOOPS, turn)

    def test_items_of_many_digits(self):
        self.assertIs(is_walk(HUGE, ((0, 0, 10 ** 40 - 2), (0, 2, 0))), True)
        self.assertIs(is_walk(HUGE, ((0, 0, 10 ** 40 - 1), (0, 2, 0))), False)
        self.assertIs(is_told_round(HUGE, ((0, 0, 5), (0, 0, 10 ** 40 - 2))), True)

    def test_long(self):
        lap = ((0, 0, 0),) * 4096 + ((0, 0, 1),)
        self.assertIs(is_told_round(LOOPS, lap), True)
        self.assertIs(is_told_round(LOOPS, lap[1:] + lap[:1]), False)
        self.assertEqual(told_form(LOOPS, lap[9:] + lap[:9]), (lap, 1))
        self.assertEqual(told_form(LOOPS, lap[:4096]), (lap[:1], 4096))


class Turns(unittest.TestCase):
    def test_examples(self):
        self.assertEqual(turns(G, (BACK, OUT)), ((OUT, BACK), (BACK, OUT)))
        self.assertEqual(turns(G, (HOME,)), ((HOME,),))

    def test_equal_turns_count_once(self):
        self.assertEqual(turns(G, (HOME, HOME, HOME)), ((HOME, HOME, HOME),))
        self.assertEqual(turns(G, (BACK, OUT) * 3), ((OUT, BACK) * 3, (BACK, OUT) * 3))

    def test_random_rounds(self):
        for web, lap in random_rounds(6, 200):
            self.assertEqual(turns(web, lap), plainly.turns(lap))
            self.assertEqual(turns(web, lap * 2), plainly.turns(lap * 2))

    def test_nearly_repeated(self):
        for lap in nearly_repeated():
            self.assertEqual(turns(LOOPS, lap), plainly.turns(lap))


class ToldForm(unittest.TestCase):
    def test_examples(self):
        self.assertEqual(told_form(G, (BACK, OUT, BACK, OUT)), ((OUT, BACK), 2))
        self.assertEqual(told_form(G, (HOME,)), ((HOME,), 1))
        self.assertEqual(told_form(G, (HOME,) * 40), ((HOME,), 40))
        self.assertEqual(told_form(G, (OUT, BACK, HOME) * 5), ((HOME, OUT, BACK), 5))

    def test_all_short_rounds(self):
        for web in SMALL_WEBS:
            for length in range(1, 7):
                for lap in plainly.walks(web, length):
                    if plainly.is_round(web, lap):
                        self.assertEqual(told_form(web, lap), plainly.told_form(lap))

    def test_random_rounds(self):
        for web, lap in random_rounds(7, 200):
            self.assertEqual(told_form(web, lap), plainly.told_form(lap))
            self.assertEqual(told_form(web, lap * 3), (plainly.told_form(lap)[0], 3 * plainly.told_form(lap)[1]))

    def test_nearly_repeated(self):
        for lap in nearly_repeated():
            for turn in plainly.turns(lap):
                self.assertEqual(told_form(LOOPS, turn), plainly.told_form(turn))


class WrongArguments(unittest.TestCase):
    def test_bad_web_comes_first(self):
        calls = (is_walk, is_round, is_told_round, turns, told_form, rounds)
        things = [thing for thing in ANY_VALUES + NO_WEBS if not plainly.is_web(thing)]
        things.extend(thing for thing in changed_once(G) if not plainly.is_web(thing))
        for call in calls:
            for thing in things:
                for second in ((HOME,), None, True, 0):
                    with self.assertRaises(BadWeb) as caught:
                        call(thing, second)
                    self.assertIs(caught.exception.thing, thing)

    def test_bad_round(self):
        things = ANY_VALUES + tuple(thing for lap in SAMPLES for thing in changed_once(lap))
        for thing in things + ((OUT,), (HOME, OUT), (BACK, OUT, BACK), [HOME], (OUT, OUT)):
            if plainly.is_round(G, thing):
                continue
            for call in (turns, told_form):
                with self.assertRaises(BadRound) as caught:
                    call(G, thing)
                self.assertIs(caught.exception.thing, thing)


if __name__ == "__main__":
    unittest.main()
