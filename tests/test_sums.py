"""Point 14, its first half: factor tables, products and sums."""

import unittest

from hungwords.books import Book
from hungwords.sums import is_factors, product, sum_any, sum_plain
from tests.helper import (
    WRONG_NUMBERS, WRONG_THINGS, at_way, even_factors, hangings_gone_through, multiplied_out, other_kind,
    plain_gone_through, put_at, some_factors, ways_down,
)

F = (
    (5, 0, 7, 0),
    (1, 2, 0, 3),
    (1000, 10, 3, 0),
)


class IsFactorsTest(unittest.TestCase):
    def test_tables(self):
        for right in [F, ((0, 0),), ((1000, 0),), ((10 ** 60, 0),), even_factors(3, 0), even_factors(60, 4)]:
            self.assertIs(is_factors(right), True)
        for seed in range(20):
            self.assertIs(is_factors(some_factors(seed, 1 + seed % 12, 1000, 30)), True)

    def test_of_a_book(self):
        book = Book()
        book.put(["a", "b", "a"], (2, 0, 2))
        for words in [["a"], ["a", "b"], ["b", "a", "c", "a"], ["a"] * 12]:
            self.assertIs(is_factors(book.factors_for(words)), True)
            self.assertIs(is_factors(book.table_for(words)), False)

    def test_entries_of_any_size(self):
        for way in [(0, 0), (1, 3), (2, 2)]:
            for right in [0, 1, 1001, 10 ** 400]:
                self.assertIs(is_factors(put_at(F, way, right)), True)

    def test_numbers_below_nought(self):
        for way in ways_down(F):
            if len(way) == 2:
                for wrong in [-1, -10 ** 40]:
                    self.assertIs(is_factors(put_at(F, way, wrong)), False)

    def test_own_entries_are_nought(self):
        for n in (1, 2, 3, 12):
            for word in range(1, n + 1):
                for wrong in [1, 2, -1, 10 ** 20, None, False]:
                    self.assertIs(is_factors(put_at(even_factors(n, 2), (word - 1, word), wrong)), False)

    def test_wrong_kinds_at_each_entry(self):
        for f in [F, ((0, 0),), even_factors(4, 1)]:
            for way in ways_down(f):
                if len(way) == 2:
                    for wrong in WRONG_NUMBERS + [None]:
                        self.assertIs(is_factors(put_at(f, way, wrong)), False, (way, wrong))

    def test_wrong_kinds_of_rows_and_of_the_whole(self):
        for f in [F, ((0, 0),), even_factors(4, 1)]:
            for at in range(len(f)):
                for wrong in WRONG_THINGS + ["0" * (len(f) + 1)]:
                    self.assertIs(is_factors(put_at(f, (at,), wrong)), False, (at, wrong))
        for wrong in WRONG_THINGS:
            self.assertIs(is_factors(wrong), False, wrong)

    def test_lists_for_tuples(self):
        for way in ways_down(F):
            if len(way) < 2:
                self.assertIs(is_factors(put_at(F, way, other_kind(at_way(F, way)))), False)

    def test_one_more_or_one_fewer(self):
        for at in range(3):
            self.assertIs(is_factors(put_at(F, (at,), F[at] + (0,))), False)
            self.assertIs(is_factors(put_at(F, (at,), (0,) + F[at])), False)
            self.assertIs(is_factors(put_at(F, (at,), F[at][:-1])), False)
            self.assertIs(is_factors(F[:at] + F[at + 1:]), False)
            self.assertIs(is_factors(F + (F[at],)), False)
        self.assertIs(is_factors(even_factors(3, 1) + even_factors(4, 1)[3:]), False)
        self.assertIs(is_factors(((0,),)), False)
        self.assertIs(is_factors(((1, 0, 0),)), False)


class ProductTest(unittest.TestCase):
    def test_ordinary(self):
        self.assertEqual(product(F, (0, 1, 1)), 5 * 2 * 10)
        self.assertEqual(product(F, (2, 3, 0)), 7 * 3 * 1000)
        self.assertEqual(product(F, (3, 1, 0)), 0)
        self.assertEqual(product(((7, 0),), (0,)), 7)
        self.assertEqual(product(((0, 0),), (0,)), 0)

    def test_all_of_few_words(self):
        f = some_factors(1, 4, 9, 20)
        for h in hangings_gone_through(4):
            self.assertEqual(product(f, h), multiplied_out(f, h))


class SumsTest(unittest.TestCase):
    def test_ordinary(self):
        # Of three words two of the nine hangings are not plain: (2, 0, 1) and (3, 0, 2).
        products = [5 * 2 * 10, 5 * 2 * 3, 5 * 3 * 10, 7 * 1 * 10, 7 * 1 * 3, 7 * 3 * 1000, 0, 0, 0]
        self.assertEqual(sum_any(F), sum(products))
        self.assertEqual(sum_plain(F), sum(products) - 70)

    def test_one_word(self):
        for factor in [0, 1, 1000]:
            self.assertEqual(sum_any(((factor, 0),)), factor)
            self.assertEqual(sum_plain(((factor, 0),)), factor)

    def test_all_gone_through(self):
        for n in range(1, 6):
            every, plain = hangings_gone_through(n), plain_gone_through(n)
            for seed in range(12):
                f = some_factors(seed, n, 1000 if seed % 2 else 3, 15 * (seed % 5))
                self.assertEqual(sum_any(f), sum(multiplied_out(f, h) for h in every))
                self.assertEqual(sum_plain(f), sum(multiplied_out(f, h) for h in plain))

    def test_six_words(self):
        for seed in range(3):
            f = some_factors(seed, 6, 9, 20)
            self.assertEqual(sum_plain(f), sum(multiplied_out(f, h) for h in plain_gone_through(6)))

    def test_sums_that_are_nought(self):
        for n in (1, 2, 3, 12):
            self.assertEqual(sum_any(even_factors(n, 0)), 0)
            self.assertEqual(sum_plain(even_factors(n, 0)), 0)
        no_top = tuple((0,) + row[1:] for row in even_factors(5, 3))
        self.assertEqual((sum_any(no_top), sum_plain(no_top)), (0, 0))
        ring_beside = ((2, 0, 0, 0), (0, 0, 0, 3), (0, 0, 4, 0))
        self.assertEqual((sum_any(ring_beside), sum_plain(ring_beside)), (0, 0))
        crossing_alone = ((0, 0, 0, 2), (3, 0, 0, 0), (0, 0, 5, 0))
        self.assertEqual((sum_any(crossing_alone), sum_plain(crossing_alone)), (30, 0))

    def test_one_hanging_alone(self):
        for h in hangings_gone_through(4):
            f = tuple(tuple(at + 2 if on == h[at] else 0 for on in range(5)) for at in range(4))
            self.assertEqual(sum_any(f), 2 * 3 * 4 * 5)
            self.assertEqual(sum_plain(f), 2 * 3 * 4 * 5 if h in plain_gone_through(4) else 0)

    def test_twelve_words(self):
        self.assertEqual(sum_any(even_factors(12, 1000)), 12 ** 11 * 1000 ** 12)
        self.assertEqual(sum_plain(even_factors(12, 1000)), sum_plain(even_factors(12, 1)) * 1000 ** 12)
        # By the top's entry: the sum is that of the tables that have one word's entry for 0 alone.
        f = some_factors(5, 12, 1000, 20)
        for sum_of in (sum_any, sum_plain):
            parts = [
                tuple(row if at == top else (0,) + row[1:] for at, row in enumerate(f)) for top in range(12)
            ]
            self.assertEqual(sum(sum_of(part) for part in parts), sum_of(f))
            self.assertGreater(sum_of(f), 0)
