"""[1.2] and [0.2]: all told rounds with a length, and `most`."""

import unittest

from otherpace.errors import BadLength, BadWeb, TooMany
from otherpace.walks import rounds
from otherpace.webs import web_of
from tests import plainly
from tests.samples import ANY_VALUES, EIGHT, FULL, G, HUGE, LONG_RING, LOOPS, TWO_STEPS, random_tables

# The numbers of told rounds of the web with one room and two arrows.
OF_TWO_LOOPS = (2, 1, 2, 3, 6, 9, 18, 30, 56, 99)
# Webs with 4096 and with 4097 told rounds of length 10.
JUST_MET = ((0, 0, 2, 0, 0), (0, 0, 0, 1, 1), (0, 2, 2, 0, 0), (1, 1, 0, 0, 1), (1, 0, 0, 2, 0))
JUST_PASSED = ((0, 0, 0, 0, 2), (0, 1, 1, 1, 2), (1, 2, 0, 2, 0), (2, 0, 0, 1, 0), (0, 1, 0, 0, 0))


def told_many(web, length):
    """By what the walks of a length are in all: each is a told round of a length that divides it."""
    closed = sum(plainly.power(web, length)[i][i] for i in range(len(web)))
    shorter = [size for size in range(1, length) if length % size == 0]
    return (closed - sum(size * told_many(web, size) for size in shorter)) // length


class Rounds(unittest.TestCase):
    def check_all(self, web, length, found):
        """That these are as many told rounds as there are, each once, ascending."""
        self.assertEqual(len(found), told_many(web, length))
        self.assertTrue(all(one < other for one, other in zip(found, found[1:])))
        for lap in found:
            self.assertEqual(len(lap), length)
            self.assertTrue(plainly.is_told_round(web, lap), lap)

    def test_examples(self):
        self.assertEqual(rounds(G, 1), (((0, 0, 0),),))
        self.assertEqual(rounds(G, 2), (((0, 1, 0), (1, 0, 0)),))
        self.assertEqual(rounds(G, 3), (((0, 0, 0), (0, 1, 0), (1, 0, 0)),))
        self.assertEqual([len(rounds(G, length)) for length in range(1, 6)], [1, 1, 1, 1, 2])
        self.assertEqual(tuple(len(rounds(LOOPS, length)) for length in range(1, 11)), OF_TWO_LOOPS)

    def test_none(self):
        for length in (1, 3, 9):
            self.assertEqual(rounds(TWO_STEPS, length), ())
        self.assertEqual(rounds(LONG_RING, 4), ())
        self.assertEqual(rounds(EIGHT, 2), ())
        self.assertEqual(rounds(EIGHT, 3, most=0), ())
        self.assertEqual(rounds(TWO_STEPS, 3, most=0), ())

    def test_kinds(self):
        found = rounds(LOOPS, 3)
        self.assertIs(type(found), tuple)
        self.assertTrue(all(type(lap) is tuple for lap in found))
        self.assertTrue(all(type(arrow) is tuple for lap in found for arrow in lap))

    def test_plain_enumeration(self):
        webs = [G, LOOPS, TWO_STEPS, LONG_RING, ((3,),), ((1, 1, 0), (0, 0, 1), (1, 1, 0))]
        webs.extend(table for table in random_tables(8, 60, rooms=3, item=2) if plainly.is_web(table))
        for web in webs:
            for length in range(1, 9):
                if len(plainly.arrows(web)) ** length < 30000:
                    self.assertEqual(rounds(web, length), plainly.rounds(web, length), (web, length))

    def test_all_within_the_limits(self):
        for web in random_tables(9, 150, rooms=5, item=3):
            if not plainly.is_web(web):
                continue
            for length in range(1, 11):
                if told_many(web, length) <= 300:
                    self.check_all(web, length, rounds(web, length))

    def test_largest(self):
        self.assertEqual(len(rounds(JUST_MET, 10)), 4096)
        self.check_all(JUST_MET, 10, rounds(JUST_MET, 10))
        self.check_all(JUST_PASSED, 10, rounds(JUST_PASSED, 10, most=4097))
        self.check_all(((4,),), 7, rounds(((4,),), 7))
        self.check_all(((3,),), 9, rounds(((3,),), 9))
        self.check_all(FULL, 2, rounds(FULL, 2))

    def test_none_among_very_many_walks(self):
        """From each of two rooms six arrows lead to each of three, and back: no odd rounds."""
        web = ((0, 0, 6, 6, 6),) * 2 + ((6, 6, 0, 0, 0),) * 3
        for length in (1, 3, 5, 7, 9, 39):
            self.assertEqual(rounds(web, length), ())
            self.assertEqual(rounds(web, length, most=0), ())

    def test_longer_than_the_limit(self):
        self.assertEqual(len(rounds(LONG_RING, 40)), told_many(LONG_RING, 40))
        self.check_all(EIGHT, 40, rounds(EIGHT, 40))

    def test_eight_rooms(self):
        self.assertEqual(rounds(EIGHT, 1), (((3, 3, 0),),))
        ring = tuple((i, (i + 1) % 8, 0) for i in range(8))
        self.assertEqual(rounds(EIGHT, 8), (ring,))
        self.assertEqual(rounds(EIGHT, 9), (ring[:3] + ((3, 3, 0),) + ring[3:],))

    def test_items_of_many_digits(self):
        nines = "9" * 40
        with self.assertRaises(TooMany):
            rounds(web_of(f"web 2\n0 1\n1 {nines}"), 1)
        self.assertEqual(rounds(web_of(f"web 2\n0 {nines}\n1 0"), 1), ())
        self.assertEqual(rounds(web_of(f"web 2\n1 {nines}\n1 0"), 1), (((0, 0, 0),),))


class Most(unittest.TestCase):
    def too_many(self, web, length, most):
        with self.assertRaises(TooMany) as caught:
            rounds(web, length, most=most)
        self.assertEqual(caught.exception.most, most)

    def test_just_met_and_just_passed(self):
        for web, length in ((LOOPS, 5), (LOOPS, 10), (G, 7), (((3,),), 6), (LONG_RING, 10), (JUST_MET, 10),
                            (((4,),), 4), (((5,),), 4), (((3,),), 8), (((2, 1), (1, 0)), 9), (FULL, 1), (FULL, 2)):
            many = told_many(web, length)
            found = rounds(web, length)
            self.assertEqual(rounds(web, length, most=many), found)
            self.assertEqual(rounds(web, length, most=many + 1), found)
            self.assertEqual(rounds(web, length, most=10 ** 9), found)
            self.too_many(web, length, many - 1)

    def test_0(self):
        self.too_many(G, 1, 0)
        self.too_many(LOOPS, 2, 0)

    def test_left_out(self):
        self.assertEqual(len(rounds(((4096,),), 1)), 4096)
        self.assertEqual(len(rounds(((4097,),), 1, most=4097)), 4097)
        for web, length in ((JUST_PASSED, 10), (((4097,),), 1)):
            with self.assertRaises(TooMany) as caught:
                rounds(web, length)
            self.assertEqual(caught.exception.most, 4096)

    def test_far_too_many(self):
        for length in (10, 40):
            with self.assertRaises(TooMany) as caught:
                rounds(FULL, length)
            self.assertEqual(caught.exception.most, 4096)
            self.too_many(HUGE, length, 10 ** 6)
        self.too_many(web_of("web 8" + ("\n" + " ".join(["9" * 40] * 8)) * 8), 10, 5)

    def test_by_name_only(self):
        with self.assertRaises(TypeError):
            rounds(G, 2, 5)


class WrongArguments(unittest.TestCase):
    def test_bad_length(self):
        things = tuple(thing for thing in ANY_VALUES if type(thing) is not int)
        for thing in things + (0, -1, -(10 ** 39), True, False, "1", (1,)):
            for most in (0, 4096):
                with self.assertRaises(BadLength) as caught:
                    rounds(LOOPS, thing, most=most)
                self.assertIs(caught.exception.thing, thing)

    def test_too_many_comes_last(self):
        with self.assertRaises(BadWeb):
            rounds(((1,),), 0, most=0)
        with self.assertRaises(BadWeb):
            rounds(((1,),), 1, most=0)
        with self.assertRaises(BadLength):
            rounds(FULL, 0, most=0)


if __name__ == "__main__":
    unittest.main()
