"""Point 9: the best of all hangings, likeliest ones, rings, and papers told."""

import itertools
import unittest

from hungwords.anybest import best_any, likeliest, paper_any, rings
from hungwords.anycheck import shows_best_any
from hungwords.hangings import is_hanging
from hungwords.worths import worth_of
from tests.helper import even_table, in_order, put_at, some_table


def nested_table(n, top_worth):
    """Words the nearer by their numbers' bits are of the more worth on one another, so that rings lie within rings."""
    rows = []
    for word in range(1, n + 1):
        row = [top_worth] + [100 - 10 * ((word - 1) ^ (on - 1)).bit_length() for on in range(1, n + 1)]
        row[word] = None
        rows.append(tuple(row))
    return tuple(rows)


def some_tables():
    """Tables of few words of many sorts: like worths often or seldom, few entries None or most."""
    for seed in range(700):
        n = 1 + seed % 4
        yield some_table(seed, n, -(seed % 4), seed % 9, (seed * 13) % 80)
    for seed in range(60):
        yield some_table(seed, 5, -3, seed % 8, seed % 50)
    for n in range(1, 6):
        yield nested_table(n, -50)
        yield nested_table(n, 200)


class BestAnyTest(unittest.TestCase):
    def test_one_word(self):
        self.assertEqual(best_any(((-7, None),)), (-7, (0,)))
        self.assertEqual(best_any(((0, None),)), (0, (0,)))
        self.assertIs(best_any(((None, None),)), None)

    def test_ordinary(self):
        self.assertEqual(best_any(((1, None, 8), (5, 2, None))), (13, (2, 0)))
        crossed = ((None, None, 1, 9, 1), (0, 1, None, 1, 9), (9, 1, 1, None, 1), (0, 1, 1, 8, None))
        self.assertEqual(best_any(crossed), (35, (3, 4, 0, 3)))

    def test_against_all_gone_through(self):
        for w in some_tables():
            pairs = in_order(w)
            self.assertEqual(best_any(w), pairs[0] if pairs else None, w)

    def test_all_alike_the_least_is_told(self):
        for n in range(1, 13):
            for worth in (-10 ** 9, -1, 0, 1, 10 ** 9):
                self.assertEqual(best_any(even_table(n, worth)), (n * worth, (0,) + (1,) * (n - 1)))

    def test_like_worths_the_least_is_told(self):
        w = put_at(even_table(4, 0), (0, 0), None)
        self.assertEqual(best_any(w), (0, (2, 0, 1, 1)))
        w = put_at(w, (0, 2), None)
        self.assertEqual(best_any(w), (0, (3, 0, 2, 1)))

    def test_one_top_however_much_it_is_worth(self):
        w = tuple((10 ** 9,) + row[1:] for row in even_table(12, -10 ** 9))
        self.assertEqual(best_any(w), (10 ** 9 - 11 * 10 ** 9, (0,) + (1,) * 11))
        w = tuple((-10 ** 9,) + row[1:] for row in even_table(12, 10 ** 9))
        self.assertEqual(best_any(w), (11 * 10 ** 9 - 10 ** 9, (0,) + (1,) * 11))

    def test_none_may_be(self):
        self.assertIs(best_any(even_table(3, None)), None)
        self.assertIs(best_any(((None, None, 1), (None, 1, None))), None)
        self.assertIs(best_any(((1, None, None), (1, None, None))), None)
        self.assertIs(best_any(((1, None, 1, 1), (None, None, None, 1), (None, None, 1, None))), None)
        self.assertIs(best_any(((1, None, 1), (None, None, None))), None)

    def test_just_one_may_be(self):
        for h in [(0, 1, 2, 3), (2, 3, 4, 0), (3, 0, 2, 1), (0, 1, 1, 1)]:
            w = tuple(tuple(-5 if on == h[at] else None for on in range(5)) for at in range(4))
            self.assertEqual(best_any(w), (-20, h))

    def test_is_a_hanging_of_its_worth(self):
        for seed in range(40):
            w = some_table(seed, 12, -10 ** 9, 10 ** 9, seed)
            worth, h = best_any(w)
            self.assertTrue(is_hanging(h))
            self.assertEqual(worth_of(w, h), worth)

    def test_told_again_the_same(self):
        w = some_table(5, 8, 0, 2, 20)
        self.assertEqual(best_any(w), best_any(w))
        self.assertEqual(paper_any(w), paper_any(w))


class PaperAnyTest(unittest.TestCase):
    def shown(self, w):
        best = best_any(w)
        if best is None:
            self.assertIs(paper_any(w), None)
        else:
            self.assertIs(shows_best_any(w, best[1], paper_any(w)), True, w)

    def test_few_words(self):
        for w in some_tables():
            self.shown(w)

    def test_up_to_twelve_words(self):
        for seed in range(200):
            self.shown(some_table(seed, 1 + seed % 12, -(seed % 30), seed % 7, (seed * 7) % 90))
        for seed in range(40):
            self.shown(some_table(seed, 12, -10 ** 9, 10 ** 9, seed))
        for n in range(1, 13):
            self.shown(even_table(n, -3))
            self.shown(even_table(n, 10 ** 9))

    def test_rings_within_rings(self):
        for n in range(2, 13):
            for top_worth in (-10 ** 9, 0, 75, 10 ** 9):
                self.shown(nested_table(n, top_worth))
        somes = [some for some, price in paper_any(nested_table(8, -50))[2] if price > 0]
        self.assertTrue({(1, 2), (7, 8), (1, 2, 3, 4), (1, 2, 3, 4, 5, 6, 7, 8)} <= set(somes))

    def test_none_without_a_hanging(self):
        for w in [even_table(3, None), ((1, None, None), (1, None, None)), ((None, None, 1), (None, 1, None))]:
            self.assertIs(paper_any(w), None)

    def test_what_is_told_is_the_askers_own(self):
        w = nested_table(6, 0)
        hook, words, sets = paper_any(w)
        kept = (hook, list(words), list(sets))
        words.append(1)
        sets.clear()
        self.assertEqual(paper_any(w), kept)


class LikeliestTest(unittest.TestCase):
    def test_ordinary(self):
        w = ((1, None, 8, 2), (5, 2, None, 5), (None, -4, -3, None))
        self.assertEqual(likeliest(w), (2, 0, 2))

    def test_edges(self):
        self.assertEqual(likeliest(((-3, None),)), (0,))
        self.assertEqual(likeliest(((None, None),)), (None,))
        self.assertEqual(likeliest(even_table(4, -1)), (0, 0, 0, 0))
        self.assertEqual(likeliest(((None, None, 0, 0), (None,) * 4, (None, 0, 0, None))), (2, None, 1))

    def test_by_its_words(self):
        for seed in range(60):
            w = some_table(seed, 1 + seed % 12, -2, 2, seed)
            for on, row in zip(likeliest(w), w):
                if on is None:
                    self.assertEqual(set(row), {None})
                else:
                    self.assertTrue(all(row[on] > worth for worth in row[:on] if worth is not None))
                    self.assertTrue(all(row[on] >= worth for worth in row[on:] if worth is not None))


class RingsTest(unittest.TestCase):
    def test_ordinary(self):
        self.assertEqual(rings((2, 1)), [[1, 2]])
        self.assertEqual(rings((0, 3, 2, 3)), [[2, 3]])
        self.assertEqual(rings((3, 4, 1, 5, 2, 1, 0, None)), [[1, 3], [2, 4, 5]])
        self.assertEqual(rings((6, 3, 4, 2, 1, 5)), [[1, 5, 6], [2, 3, 4]])

    def test_edges(self):
        self.assertEqual(rings((0,)), [])
        self.assertEqual(rings((None,)), [])
        self.assertEqual(rings((0, 0, 0)), [])
        self.assertEqual(rings((2, 3, 0)), [])
        self.assertEqual(rings((2, 3, None)), [])
        self.assertEqual(rings(tuple(range(2, 13)) + (1,)), [list(range(1, 13))])
        self.assertEqual(rings((2, 1, 4, 3, 6, 5, 8, 7, 10, 9, 12, 11)), [[n, n + 1] for n in range(1, 12, 2)])

    def test_all_of_four_words(self):
        choices = [[on for on in [None, 0, 1, 2, 3, 4] if on != word] for word in range(1, 5)]
        for ons in itertools.product(*choices):
            due = []
            for word in range(1, 5):
                come_to = []
                at = word
                while at and ons[at - 1] not in come_to:
                    at = ons[at - 1]
                    come_to.append(at)
                if word in come_to and sorted(come_to) not in due:
                    due.append(sorted(come_to))
            self.assertEqual(rings(ons), due, ons)

    def test_what_is_told_is_the_askers_own(self):
        told = rings((2, 1, 4, 3))
        told[0].append(9)
        told.pop()
        self.assertEqual(rings((2, 1, 4, 3)), [[1, 2], [3, 4]])
