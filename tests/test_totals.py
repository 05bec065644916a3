"""[1.3], as far as `rounds` needs it: numbers of rounds, without a look at single ones."""

import unittest

from otherpace.totals import closed_total, divisors_of_length, moebius, told_total
from tests import plainly
from tests.samples import EIGHT, FULL, G, HUGE, LOOPS, TWO_STEPS


class Totals(unittest.TestCase):
    def test_examples(self):
        self.assertEqual([closed_total(G, length) for length in (1, 2, 3, 4)], [1, 3, 4, 7])
        self.assertEqual([told_total(G, length) for length in (1, 2, 3, 4)], [1, 1, 1, 1])

    def test_told_rounds_repeated_are_all_rounds(self):
        for web in (G, LOOPS, TWO_STEPS, FULL, EIGHT, HUGE):
            for length in range(1, 41):
                divisors = [size for size in range(1, length + 1) if length % size == 0]
                self.assertEqual(sum(size * told_total(web, size) for size in divisors), closed_total(web, length))

    def test_closed_total(self):
        for web in (G, LOOPS, TWO_STEPS):
            for length in range(1, 7):
                laps = [walk for walk in plainly.walks(web, length) if plainly.is_round(web, walk)]
                self.assertEqual(closed_total(web, length), len(laps))

    def test_moebius(self):
        first = (1, -1, -1, 0, -1, 1, -1, 0, 0, 1, -1, 0, -1, 1, 1, 0, -1, 0, -1, 0)
        self.assertEqual(tuple(moebius(number) for number in range(1, 21)), first)
        self.assertEqual([moebius(number) for number in (27, 30, 36, 49, 98, 210)], [0, -1, 0, 0, 0, 1])

    def test_divisors(self):
        self.assertEqual(divisors_of_length(1), [1])
        self.assertEqual(divisors_of_length(36), [1, 2, 3, 4, 6, 9, 12, 18, 36])


if __name__ == "__main__":
    unittest.main()
