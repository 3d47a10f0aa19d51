"""Point 14, its second half: shares."""

import fractions
import unittest

from hungwords.errors import HangError, NoSum
from hungwords.shares import share_any, share_plain, shares_any, shares_plain
from hungwords.sums import sum_any, sum_plain
from tests.helper import (
    even_factors, hangings_gone_through, multiplied_out, plain_gone_through, some_factors,
)

BOTH = [
    (shares_any, share_any, sum_any, hangings_gone_through),
    (shares_plain, share_plain, sum_plain, plain_gone_through),
]


def shares_due(f, hangings):
    """The shares by going through all hangings."""
    n = len(f)
    total = sum(multiplied_out(f, h) for h in hangings)
    due = []
    for at in range(n):
        parts = [
            fractions.Fraction(sum(multiplied_out(f, h) for h in hangings if h[at] == on), total)
            for on in range(n + 1)
        ]
        due.append([(part.numerator, part.denominator) for part in parts])
    return due


class SharesTest(unittest.TestCase):
    def test_ordinary(self):
        f = ((1, 0, 3), (2, 5, 0))
        # (0, 1) has 1 * 5, (2, 0) has 3 * 2.
        due = [[(5, 11), (0, 1), (6, 11)], [(6, 11), (5, 11), (0, 1)]]
        self.assertEqual(shares_any(f), due)
        self.assertEqual(shares_plain(f), due)

    def test_without_a_common_divisor(self):
        f = ((6, 0, 6), (4, 2, 0))
        due = [[(1, 3), (0, 1), (2, 3)], [(2, 3), (1, 3), (0, 1)]]
        self.assertEqual(shares_any(f), due)
        self.assertEqual(shares_plain(f), due)

    def test_one_word(self):
        for shares, share, _, _ in BOTH:
            self.assertEqual(shares(((7, 0),)), [[(1, 1), (0, 1)]])
            self.assertEqual(share(((7, 0),), 1, 0), (1, 1))
            self.assertEqual(share(((7, 0),), 1, 1), (0, 1))

    def test_crossings_alone_make_the_difference(self):
        f = even_factors(3, 2)
        self.assertEqual(share_plain(f, 2, 0), (1, 7))
        self.assertEqual(share_any(f, 2, 0), (1, 3))

    def test_all_gone_through(self):
        for n in range(1, 6):
            for shares, share, sum_of, gone_through in BOTH:
                hangings = gone_through(n)
                for seed in range(8):
                    f = some_factors(seed, n, 1000 if seed % 2 else 4, 15 * (seed % 4))
                    if sum_of(f):
                        told = shares(f)
                        self.assertEqual(told, shares_due(f, hangings))
                        for word in range(1, n + 1):
                            self.assertEqual([share(f, word, on) for on in range(n + 1)], told[word - 1])

    def test_each_words_are_together_one(self):
        for shares, share, _, _ in BOTH:
            for seed in range(3):
                f = some_factors(seed, 12, 1000, 10 * seed)
                for row in shares(f):
                    self.assertEqual(len(row), 13)
                    self.assertEqual(sum(fractions.Fraction(*part) for part in row), 1)
            told = shares(f)
            tops = sum(fractions.Fraction(*row[0]) for row in told)
            self.assertEqual(tops, 1)
            self.assertEqual(share(f, 12, 3), told[11][3])

    def test_refused_where_the_sum_is_nought(self):
        crossing_alone = ((0, 0, 0, 2), (3, 0, 0, 0), (0, 0, 5, 0))
        cases = [(even_factors(n, 0), True) for n in (1, 2, 12)] + [(crossing_alone, False)]
        for f, of_all in cases:
            for shares, share, sum_of, _ in BOTH:
                if sum_of is sum_plain or of_all:
                    self.refused(shares, f)
                    for word in range(1, len(f) + 1):
                        for on in range(len(f) + 1):
                            self.refused(share, f, word, on)
        self.assertEqual(shares_any(crossing_alone)[0], [(0, 1), (0, 1), (0, 1), (1, 1)])

    def refused(self, ask, *things):
        with self.assertRaises(HangError) as caught:
            ask(*things)
        self.assertIs(type(caught.exception), NoSum)

    def test_the_lists_are_the_askers_own(self):
        f = even_factors(3, 1)
        for shares, _, _, _ in BOTH:
            told = shares(f)
            kept = [list(row) for row in told]
            told[0].append(1)
            told.pop()
            self.assertEqual(shares(f), kept)
            rows = shares(f)
            self.assertEqual(len({id(row) for row in rows + [rows]}), 4)
