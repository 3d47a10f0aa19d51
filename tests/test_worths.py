"""Point 7, its first paragraph: worth tables."""

import itertools
import unittest

from hungwords.worths import alone, is_table, without, worth_of
from tests.helper import (
    WRONG_NUMBERS, WRONG_THINGS, at_way, even_table, hangings_gone_through, other_kind, put_at, some_table,
    ways_down,
)

W = (
    (5, None, 7, None),
    (None, -2, None, 0),
    (-10 ** 9, 10 ** 9, 3, None),
)


class IsTableTest(unittest.TestCase):
    def test_tables(self):
        for right in [W, ((0, None),), ((None, None),), ((-10 ** 50, None),), even_table(3, None), even_table(60, 4)]:
            self.assertIs(is_table(right), True)
        for seed in range(20):
            self.assertIs(is_table(some_table(seed, 1 + seed % 6, -9, 9, 30)), True)

    def test_entries_beyond_the_bounds(self):
        for way in [(0, 0), (1, 3), (2, 2)]:
            self.assertIs(is_table(put_at(W, way, 10 ** 400)), True)
            self.assertIs(is_table(put_at(W, way, -10 ** 9 - 1)), True)
            self.assertIs(is_table(put_at(W, way, None)), True)

    def test_own_entries_are_none(self):
        for n in (1, 2, 3, 12):
            for word in range(1, n + 1):
                for wrong in [0, 1, -1, 10 ** 20]:
                    self.assertIs(is_table(put_at(even_table(n, 2), (word - 1, word), wrong)), False)

    def test_no_words(self):
        self.assertIs(is_table(()), False)

    def test_wrong_kinds_at_each_entry(self):
        for w in [W, ((0, None),), even_table(4, 1)]:
            for way in ways_down(w):
                if len(way) == 2:
                    for wrong in WRONG_NUMBERS:
                        self.assertIs(is_table(put_at(w, way, wrong)), False, (way, wrong))

    def test_wrong_kinds_of_rows_and_of_the_whole(self):
        for w in [W, ((0, None),), even_table(4, 1)]:
            for at in range(len(w)):
                for wrong in WRONG_THINGS + ["a" * (len(w) + 1)]:
                    self.assertIs(is_table(put_at(w, (at,), wrong)), False, (at, wrong))
        for wrong in WRONG_THINGS:
            self.assertIs(is_table(wrong), False, wrong)

    def test_lists_for_tuples(self):
        for way in ways_down(W):
            if len(way) < 2:
                self.assertIs(is_table(put_at(W, way, other_kind(at_way(W, way)))), False)

    def test_one_more_or_one_fewer(self):
        for more in [None, 0]:
            for at in range(3):
                self.assertIs(is_table(put_at(W, (at,), W[at] + (more,))), False)
                self.assertIs(is_table(put_at(W, (at,), (more,) + W[at])), False)
        for at in range(3):
            self.assertIs(is_table(put_at(W, (at,), W[at][:-1])), False)
            self.assertIs(is_table(W[:at] + W[at + 1:]), False)
            self.assertIs(is_table(W + (W[at],)), False)
        self.assertIs(is_table(even_table(3, 1) + even_table(4, 1)[3:]), False)
        self.assertIs(is_table(((None,),)), False)
        self.assertIs(is_table(((1, None, None),)), False)


class AskedOfTablesTest(unittest.TestCase):
    def test_worth_of(self):
        self.assertEqual(worth_of(W, (0, 1, 1)), 5 - 2 + 10 ** 9)
        self.assertEqual(worth_of(W, (0, 1, 2)), 6)
        self.assertEqual(worth_of(W, (2, 3, 0)), 7 - 10 ** 9)
        self.assertIs(worth_of(W, (2, 0, 1)), None)
        self.assertIs(worth_of(W, (3, 1, 0)), None)
        self.assertIs(worth_of(W, (3, 0, 1)), None)

    def test_worth_of_one_word(self):
        self.assertEqual(worth_of(((-4, None),), (0,)), -4)
        self.assertEqual(worth_of(((0, None),), (0,)), 0)
        self.assertIs(worth_of(((None, None),), (0,)), None)

    def test_worth_of_all_hangings(self):
        for seed in range(6):
            w = some_table(seed, 4, -5, 5, 25)
            for h in hangings_gone_through(4):
                entries = [w[at][h[at]] for at in range(4)]
                self.assertEqual(worth_of(w, h), None if None in entries else sum(entries))

    def test_without(self):
        self.assertEqual(without(W, 1, 0), ((None, None, 7, None), W[1], W[2]))
        self.assertEqual(without(W, 2, 3), (W[0], (None, -2, None, None), W[2]))
        self.assertEqual(without(W, 3, 1), (W[0], W[1], (-10 ** 9, None, 3, None)))
        self.assertEqual(without(W, 1, 3), W)
        self.assertEqual(without(((6, None),), 1, 0), ((None, None),))

    def test_alone(self):
        self.assertEqual(alone(W, 1, 0), ((5, None, None, None), W[1], W[2]))
        self.assertEqual(alone(W, 2, 3), (W[0], (None, None, None, 0), W[2]))
        self.assertEqual(alone(W, 3, 2), (W[0], W[1], (None, None, 3, None)))
        self.assertEqual(alone(W, 1, 3), ((None, None, None, None), W[1], W[2]))
        self.assertEqual(alone(((6, None),), 1, 0), ((6, None),))

    def test_entry_by_entry(self):
        w = some_table(3, 5, -9, 9, 10)
        for word, on in itertools.product(range(1, 6), range(6)):
            if word != on:
                less, one = without(w, word, on), alone(w, word, on)
                self.assertTrue(is_table(less) and is_table(one))
                for at, to in itertools.product(range(1, 6), range(6)):
                    entry = w[at - 1][to]
                    self.assertEqual(less[at - 1][to], None if (at, to) == (word, on) else entry)
                    self.assertEqual(one[at - 1][to], None if at == word and to != on else entry)
