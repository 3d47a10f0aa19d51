"""Point 15: hangings by numbers."""

import unittest

from hungwords.errors import HangError, NoSum
from hungwords.numbered import ahead_any, ahead_plain, at_any, at_plain
from hungwords.sums import product, sum_any, sum_plain
from tests.helper import (
    even_factors, hangings_gone_through, multiplied_out, plain_gone_through, some_factors, some_hanging, some_plain,
)

BOTH = [
    (at_any, ahead_any, sum_any, hangings_gone_through),
    (at_plain, ahead_plain, sum_plain, plain_gone_through),
]
CROSSING_ALONE = ((0, 0, 0, 2), (3, 0, 0, 0), (0, 0, 5, 0))


class AtTest(unittest.TestCase):
    def refused(self, ask, *things):
        with self.assertRaises(HangError) as caught:
            ask(*things)
        self.assertIs(type(caught.exception), NoSum)

    def test_ordinary(self):
        f = ((1, 0, 3), (2, 5, 0))
        for at, _, _, _ in BOTH:
            self.assertEqual([at(f, number) for number in range(11)], [(0, 1)] * 5 + [(2, 0)] * 6)
            self.refused(at, f, 11)

    def test_one_word(self):
        for at, ahead, _, _ in BOTH:
            self.assertEqual([at(((3, 0),), number) for number in range(3)], [(0,)] * 3)
            for number in [3, 4, 10 ** 40]:
                self.refused(at, ((3, 0),), number)
            self.assertEqual(ahead(((3, 0),), (0,)), 0)

    def test_each_number_gone_through(self):
        for n in range(1, 5):
            for at, _, sum_of, gone_through in BOTH:
                for seed in range(6):
                    f = some_factors(seed, n, 3, 15 * (seed % 4))
                    due = [h for h in gone_through(n) for _ in range(multiplied_out(f, h))]
                    for number in range(0, len(due), 1 + len(due) // 100):
                        self.assertEqual(at(f, number), due[number])
                    for number in [len(due), len(due) + 1, 2 * len(due) + 9]:
                        self.refused(at, f, number)

    def test_all_factors_one(self):
        for n in range(1, 5):
            for at, _, _, gone_through in BOTH:
                listed = gone_through(n)
                self.assertEqual([at(even_factors(n, 1), number) for number in range(len(listed))], listed)

    def test_the_first_and_the_last(self):
        for at, ahead, sum_of, gone_through in BOTH:
            for seed in range(6):
                f = some_factors(seed, 5, 1000, 5 * seed)
                standing = [h for h in gone_through(5) if multiplied_out(f, h)]
                total = sum(multiplied_out(f, h) for h in standing)
                self.assertEqual(at(f, 0), standing[0])
                self.assertEqual(at(f, total - 1), standing[-1])
                self.refused(at, f, total)
                self.assertEqual(ahead(f, standing[0]), 0)
                self.assertEqual(ahead(f, standing[-1]), total - multiplied_out(f, standing[-1]))

    def test_a_sum_of_nought(self):
        for n in (1, 2, 3, 12):
            for at, _, _, _ in BOTH:
                self.refused(at, even_factors(n, 0), 0)
                self.refused(at, even_factors(n, 0), 5)
        self.assertEqual(at_any(CROSSING_ALONE, 29), (3, 0, 2))
        self.refused(at_any, CROSSING_ALONE, 30)
        self.refused(at_plain, CROSSING_ALONE, 0)


class AheadTest(unittest.TestCase):
    def test_ordinary(self):
        f = ((1, 0, 3), (2, 5, 0))
        for _, ahead, _, _ in BOTH:
            self.assertEqual(ahead(f, (0, 1)), 0)
            self.assertEqual(ahead(f, (2, 0)), 5)

    def test_all_gone_through(self):
        for n in range(1, 6):
            for _, ahead, _, gone_through in BOTH:
                for seed in range(5):
                    f = some_factors(seed, n, 9, 15 * seed)
                    total = 0
                    for h in gone_through(n):
                        self.assertEqual(ahead(f, h), total)
                        total += multiplied_out(f, h)

    def test_hangings_with_a_factor_of_nought(self):
        self.assertEqual(ahead_any(CROSSING_ALONE, (0, 1, 1)), 0)
        self.assertEqual(ahead_any(CROSSING_ALONE, (3, 0, 2)), 0)
        self.assertEqual(ahead_any(CROSSING_ALONE, (3, 3, 0)), 30)
        self.assertEqual(ahead_plain(CROSSING_ALONE, (3, 3, 0)), 0)

    def test_plain_ones_alone_are_counted(self):
        f = even_factors(3, 2)
        self.assertEqual(ahead_any(f, (3, 3, 0)), 8 * 8)
        self.assertEqual(ahead_plain(f, (3, 3, 0)), 6 * 8)


class BothWaysTest(unittest.TestCase):
    def test_twelve_words(self):
        for at, ahead, sum_of, _ in BOTH:
            for seed in range(3):
                f = some_factors(seed, 12, 1000, 8 * seed)
                total = sum_of(f)
                for number in [0, 1, total // 3, total // 2, total - 2, total - 1]:
                    h = at(f, number)
                    low = ahead(f, h)
                    self.assertTrue(low <= number < low + product(f, h))
                self.assertRaises(NoSum, at, f, total)

    def test_hangings_of_twelve_words(self):
        f = some_factors(7, 12, 1000, 0)
        for seed in range(8):
            for at, ahead, h in [(at_any, ahead_any, some_hanging(seed, 12)),
                                 (at_plain, ahead_plain, some_plain(seed, 12))]:
                low = ahead(f, h)
                self.assertEqual(at(f, low), h)
                self.assertEqual(at(f, low + product(f, h) - 1), h)
                self.assertGreater(at(f, low + product(f, h)), h)
