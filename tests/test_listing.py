"""Point 6: all hangings of few words, and how many there are."""

import unittest

from hungwords.listing import all_hangings, all_plain, hangings_many, next_plain, plain_many
from hungwords.sums import sum_any, sum_plain
from tests.helper import even_factors, hangings_gone_through, plain_gone_through


class AllTest(unittest.TestCase):
    def test_few_words(self):
        self.assertEqual(all_hangings(1), [(0,)])
        self.assertEqual(all_hangings(2), [(0, 1), (2, 0)])
        self.assertEqual(all_hangings(3), [
            (0, 1, 1), (0, 1, 2), (0, 3, 1), (2, 0, 1), (2, 0, 2), (2, 3, 0), (3, 0, 2), (3, 1, 0), (3, 3, 0),
        ])
        self.assertEqual(all_plain(1), [(0,)])
        self.assertEqual(all_plain(2), [(0, 1), (2, 0)])
        self.assertEqual(all_plain(3), [
            (0, 1, 1), (0, 1, 2), (0, 3, 1), (2, 0, 2), (2, 3, 0), (3, 1, 0), (3, 3, 0),
        ])

    def test_all_gone_through(self):
        for n in range(1, 6):
            self.assertEqual(all_hangings(n), hangings_gone_through(n))
        for n in range(1, 7):
            self.assertEqual(all_plain(n), plain_gone_through(n))

    def test_somewhat_more_words(self):
        self.assertEqual(len(all_hangings(6)), 6 ** 5)
        self.assertEqual(len(all_plain(7)), 3876)

    def test_the_list_is_the_askers_own(self):
        for ask in (all_hangings, all_plain):
            first = ask(3)
            kept = list(first)
            first.clear()
            self.assertEqual(ask(3), kept)
            self.assertIsNot(ask(3), ask(3))


class ManyTest(unittest.TestCase):
    def test_told_numbers(self):
        self.assertEqual([plain_many(n) for n in range(1, 6)], [1, 2, 7, 30, 143])
        self.assertEqual([hangings_many(n) for n in range(1, 6)], [1, 2, 9, 64, 625])

    def test_as_many_as_are_listed(self):
        for n in range(1, 6):
            self.assertEqual(hangings_many(n), len(hangings_gone_through(n)))
        for n in range(1, 7):
            self.assertEqual(plain_many(n), len(plain_gone_through(n)))

    def test_as_many_as_the_sums_count(self):
        for n in range(1, 15):
            self.assertEqual(hangings_many(n), sum_any(even_factors(n, 1)))
            self.assertEqual(plain_many(n), sum_plain(even_factors(n, 1)))

    def test_to_two_hundred_words(self):
        under = plain_counted(201)
        for n in range(1, 202):
            self.assertEqual(hangings_many(n), n ** (n - 1))
            self.assertEqual(plain_many(n), under[n])


def plain_counted(most):
    """How many plain hangings there are, by how many words: the words on the top fall apart into plain ones.

    beside[k] counts the ways to hang k words, all to one side of a word, under it.
    """
    whole, beside = [0], [1]
    for n in range(1, most + 1):
        whole.append(sum(beside[k] * beside[n - 1 - k] for k in range(n)))
        beside.append(sum(whole[k] * beside[n - k] for k in range(1, n + 1)))
    return whole


class NextPlainTest(unittest.TestCase):
    def test_each_of_few_words(self):
        for n in range(1, 7):
            listed = plain_gone_through(n)
            for h, due in zip(listed, listed[1:]):
                self.assertEqual(next_plain(h), due)
            self.assertIs(next_plain(listed[-1]), None)

    def test_ordinary(self):
        self.assertEqual(next_plain((0, 1)), (2, 0))
        self.assertEqual(next_plain((2, 0, 2)), (2, 3, 0))
        self.assertEqual(next_plain((0, 3, 1)), (2, 0, 2))

    def test_behind_the_last(self):
        self.assertIs(next_plain((0,)), None)
        self.assertIs(next_plain((2, 0)), None)
        self.assertIs(next_plain((3, 3, 0)), None)

    def test_from_the_first_to_the_last(self):
        for n in (6, 7):
            many = 1
            h = all_plain(n)[0]
            after = next_plain(h)
            while after is not None:
                self.assertLess(h, after)
                h, after = after, next_plain(after)
                many += 1
            self.assertEqual(many, plain_many(n))
