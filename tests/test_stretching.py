"""[2.6]: stretched webs, and the numbers of told rounds with a time."""

import random
import unittest

from otherpace.errors import BadLength, BadTimes, BadWeb, TooManyRooms
from otherpace.numbers import bottom_of, judge_as_many, rounds_many
from otherpace.prices import period_of, slope
from otherpace.stretching import stretched, timed_many
from tests import plainly
from tests.samples import EIGHT, G, LONG_RING, LOOPS, TWO_STEPS, random_row, random_web, random_webs

WEBS = [G, LOOPS, ((4,),), TWO_STEPS, LONG_RING, EIGHT] + random_webs(101, 40, rooms=4, item=3)


def times_for(source, web, rooms):
    """A time row that adds so many rooms."""
    times = [1] * len(plainly.arrows(web))
    for _ in range(rooms):
        times[source.randrange(len(times))] += 1
    return tuple(times)


def stretched_plainly(web, times):
    """By a list of pairs of rooms, one for each arrow."""
    pairs = []
    rooms = len(web)
    for (i, j, _), time in zip(plainly.arrows(web), times):
        stops = [i] + [rooms + at for at in range(time - 1)] + [j]
        rooms += time - 1
        pairs.extend(zip(stops, stops[1:]))
    return tuple(tuple(pairs.count((i, j)) for j in range(rooms)) for i in range(rooms))


class Stretched(unittest.TestCase):
    def test_examples(self):
        self.assertEqual(stretched(G, (1, 2, 1)), ((1, 0, 1), (1, 0, 0), (0, 1, 0)))
        for web in WEBS:
            self.assertEqual(stretched(web, (1,) * len(plainly.arrows(web))), web)

    def test_sequence_of_new_rooms(self):
        # The three arrows of G in their sequence: rooms 2 and 3, room 4, rooms 5 to 7.
        self.assertEqual(stretched(G, (3, 2, 4)), (
            (0, 0, 1, 0, 1, 0, 0, 0), (0, 0, 0, 0, 0, 1, 0, 0), (0, 0, 0, 1, 0, 0, 0, 0), (1, 0, 0, 0, 0, 0, 0, 0),
            (0, 1, 0, 0, 0, 0, 0, 0), (0, 0, 0, 0, 0, 0, 1, 0), (0, 0, 0, 0, 0, 0, 0, 1), (1, 0, 0, 0, 0, 0, 0, 0)))

    def test_several_arrows_between_two_rooms(self):
        web = ((0, 3), (2, 0))
        self.assertEqual(stretched(web, (1, 2, 1, 3, 1)), (
            (0, 2, 1, 0, 0), (1, 0, 0, 1, 0), (0, 1, 0, 0, 0), (0, 0, 0, 0, 1), (1, 0, 0, 0, 0)))
        self.assertEqual(stretched(((3,),), (2, 1, 2)), ((1, 1, 1), (1, 0, 0), (1, 0, 0)))

    def test_all_webs(self):
        source = random.Random(102)
        for web in WEBS:
            for rooms in range(9 - len(web)):
                times = times_for(source, web, rooms)
                found = stretched(web, times)
                self.assertEqual(found, stretched_plainly(web, times))
                self.assertTrue(plainly.is_web(found))
                self.assertEqual(len(found), len(web) + rooms)

    def test_8_rooms_just_met(self):
        self.assertEqual(len(stretched(G, (1, 7, 1))), 8)
        self.assertEqual(len(stretched(LOOPS, (4, 5))), 8)
        self.assertEqual(stretched(EIGHT, (1,) * 9), EIGHT)
        for web, times in ((G, (1, 8, 1)), (G, (3, 4, 3)), (LOOPS, (5, 5)), (LOOPS, (9, 1)), (EIGHT, (1,) * 8 + (2,)),
                           (G, (12, 12, 12)), (G, (1, 10 ** 39, 1)), (EIGHT, (12,) * 9)):
            with self.assertRaises(TooManyRooms):
                stretched(web, times)

    def test_told_rounds(self):
        source = random.Random(103)
        for web in WEBS:
            times = times_for(source, web, 8 - len(web))
            found = stretched(web, times)
            for time in range(1, 31):
                self.assertEqual(timed_many(web, times, time), rounds_many(found, time))

    def test_rows_that_agree(self):
        for web, times, heights in ((G, (4, 2, 3), (0, 1)), (TWO_STEPS, (1, 2, 2), (0, 1)),
                                    (((0, 2, 0), (0, 0, 1), (1, 0, 1)), (1, 2, 2, 1, 1), (0, 1, 0))):
            other = tuple(x + y for x, y in zip(times, slope(web, heights)))
            self.assertNotEqual(stretched(web, times), stretched(web, other))
            self.assertEqual(judge_as_many(stretched(web, times), stretched(web, other))[0], "as many")
            for time in range(1, 31):
                self.assertEqual(timed_many(web, times, time), timed_many(web, other, time))


class Timed(unittest.TestCase):
    def test_example(self):
        self.assertEqual(timed_many(G, (1, 2, 1), 3), 1)

    def test_times_of_1(self):
        for web in WEBS:
            for time in range(1, 12):
                self.assertEqual(timed_many(web, (1,) * len(plainly.arrows(web)), time), rounds_many(web, time))

    def test_listed_rounds(self):
        source = random.Random(104)
        for web in (G, LOOPS, TWO_STEPS, ((0, 1, 1), (2, 0, 0), (1, 0, 1))):
            # No round is longer than its time.
            most = 7 if web == G else 4
            told = [lap for length in range(1, most + 1) for lap in plainly.rounds(web, length)]
            for _ in range(4):
                times = random_row(source, web, 1, 4)
                for time in range(1, most + 1):
                    many = sum(plainly.price(web, times, lap) == time for lap in told)
                    self.assertEqual(timed_many(web, times, time), many)

    def test_far_more_than_8_rooms(self):
        # All times three times as great: the same rounds at times three times as great.
        for web in WEBS:
            times = (1,) * len(plainly.arrows(web))
            tripled = (3,) * len(plainly.arrows(web))
            for time in range(1, 31):
                expected = 0 if time % 3 else timed_many(web, times, time // 3)
                self.assertEqual(timed_many(web, tripled, time), expected)
        self.assertEqual([timed_many(LOOPS, (12, 12), time) for time in (11, 12, 13, 24, 36)], [0, 2, 0, 1, 2])
        times = (5, 7, 10, 12, 17, 19, 24)
        self.assertEqual([timed_many(LOOPS, (5, 7), time) for time in times], [1, 1, 0, 1, 1, 1, 1])

    def test_against_the_table_of_all_rooms(self):
        # Whatever many rooms: by the plain table of the stretched web.
        source = random.Random(105)
        for web in (G, LOOPS, TWO_STEPS, ((1, 2), (1, 1))):
            times = random_row(source, web, 1, 12)
            told = plainly.told_numbers(plainly.closed_numbers(stretched_plainly(web, times), 30))
            self.assertEqual([timed_many(web, times, time) for time in range(1, 31)], told)

    def test_no_round_in_so_short_a_time(self):
        self.assertEqual([timed_many(LONG_RING, (12,) * 6, time) for time in range(1, 31)], [0] * 30)
        self.assertEqual(timed_many(LONG_RING, (12,) * 6, 60), 2)
        self.assertEqual(timed_many(G, (10 ** 39, 1, 2), 30), 0)
        self.assertEqual(timed_many(G, (10 ** 39, 1, 2), 3), 1)


class WrongArguments(unittest.TestCase):
    def test_sequence(self):
        for times in ((1, 1, 0), (1, 1, -1), (1, 1), (1, 1, 1, 1), (1, 1, True), [1, 9, 1], None, (1, 9, "1"), (9, 9)):
            with self.assertRaises(BadTimes) as caught:
                stretched(G, times)
            self.assertIs(caught.exception.thing, times)
            with self.assertRaises(BadTimes) as caught:
                timed_many(G, times, 0)
            self.assertIs(caught.exception.thing, times)
            with self.assertRaises(BadWeb):
                stretched(((0, 1), (1, 0)), times)
            with self.assertRaises(BadWeb):
                timed_many([[2]], times, 0)

    def test_bad_length(self):
        for time in (0, -1, -(10 ** 39), True, False, None, "3", (3,), [3], {}):
            with self.assertRaises(BadLength) as caught:
                timed_many(G, (1, 2, 1), time)
            self.assertIs(caught.exception.thing, time)


class Largest(unittest.TestCase):
    def test_many_times(self):
        source = random.Random(106)
        for _ in range(60):
            web = random_web(source, source.choice((5, 8)), 6)
            times = random_row(source, web, 1, 12)
            self.assertGreaterEqual(timed_many(web, times, 30), 0)

    def test_returned_webs_are_valid(self):
        source = random.Random(107)
        for web in WEBS:
            found = stretched(web, times_for(source, web, 8 - len(web)))
            self.assertGreaterEqual(period_of(found), 1)
            self.assertEqual(bottom_of(found)[0], 1)


if __name__ == "__main__":
    unittest.main()
