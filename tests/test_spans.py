"""Point 7, from its second paragraph on: spans, and the best plain hanging."""

import unittest

from hungwords.anybest import best_any
from hungwords.kinds import best_kinds
from hungwords.spans import best_plain, spans
from hungwords.worths import worth_of
from tests.helper import (
    PLAIN, crossings_gone_through, even_table, in_order, plain_in_order, put_at, some_hanging, some_plain, some_table,
)


def span_due(w, low, high, top, tied):
    """The greatest of all ways to hang the words low to high but top, an end, under it, maybe the other end on it.

    These are the plain hangings of as many words with that end as the top, whose tie to none crosses nothing.
    """
    most = None
    for h in PLAIN[high - low + 1]:
        ons = [on + low - 1 if on else 0 for on in h]
        if ons[top - low] == 0 and (not tied or ons[low + high - top - low] == top):
            worths = [w[low + at - 1][on] for at, on in enumerate(ons) if low + at != top]
            if None not in worths and (most is None or sum(worths) > most):
                most = sum(worths)
    return most


def spans_due(w):
    """All spans, each by going through its ways."""
    due = []
    for low in range(1, len(w) + 1):
        for high in range(low + 1, len(w) + 1):
            ways = [(low, False), (low, True), (high, False), (high, True)]
            due.append((low, high) + tuple(span_due(w, low, high, top, tied) for top, tied in ways))
    return due


class SpansTest(unittest.TestCase):
    def test_one_word(self):
        self.assertEqual(spans(((5, None),)), [])
        self.assertEqual(spans(((None, None),)), [])

    def test_two_words(self):
        self.assertEqual(spans(((1, None, 8), (5, 2, None))), [(1, 2, 2, 2, 8, 8)])
        self.assertEqual(spans(((1, None, None), (5, 2, None))), [(1, 2, 2, 2, None, None)])
        self.assertEqual(spans(((1, None, 8), (5, None, None))), [(1, 2, None, None, 8, 8)])

    def test_three_words(self):
        w = ((0, None, 1, 2), (0, 4, None, 8), (0, 16, 32, None))
        self.assertEqual(spans(w), [(1, 2, 4, 4, 1, 1), (1, 3, 36, 24, 10, 10), (2, 3, 32, 32, 8, 8)])

    def test_the_entries_for_none_do_not_count(self):
        w = some_table(2, 5, -9, 9, 20)
        other = tuple((10 ** 9,) + row[1:] for row in w)
        self.assertEqual(spans(w), spans(other))

    def test_none_in_sums(self):
        self.assertEqual(spans(even_table(3, None)), [
            (low, high, None, None, None, None) for low, high in [(1, 2), (1, 3), (2, 3)]
        ])
        # Word 2 may hang on none of the others.
        w = put_at(even_table(3, 1), (1,), (1, None, None, None))
        self.assertEqual(spans(w), [
            (1, 2, None, None, 1, 1), (1, 3, None, None, None, None), (2, 3, 1, 1, None, None),
        ])

    def test_worths_below_nought(self):
        self.assertEqual(spans(even_table(3, -7)), [
            (1, 2, -7, -7, -7, -7), (1, 3, -14, -14, -14, -14), (2, 3, -7, -7, -7, -7),
        ])

    def test_all_gone_through(self):
        for n in range(1, 6):
            for seed in range(12):
                w = some_table(seed, n, -10 ** 9 if seed % 2 else -3, 10 ** 9 if seed % 2 else 3, 15 * (seed % 5))
                self.assertEqual(spans(w), spans_due(w), w)

    def test_six_words(self):
        for seed in range(3):
            w = some_table(seed, 6, -9, 9, 30)
            self.assertEqual(spans(w), spans_due(w), w)

    def test_twelve_words(self):
        told = spans(some_table(4, 12, -10 ** 9, 10 ** 9, 10))
        self.assertEqual([row[:2] for row in told], [(i, j) for i in range(1, 13) for j in range(i + 1, 13)])
        self.assertEqual(spans(even_table(12, 10 ** 9))[10], (1, 12) + (11 * 10 ** 9,) * 4)

    def test_the_list_is_the_askers_own(self):
        w = even_table(4, 2)
        first = spans(w)
        kept = list(first)
        first.clear()
        self.assertEqual(spans(w), kept)
        self.assertIsNot(spans(w), spans(w))


class BestPlainTest(unittest.TestCase):
    def test_ordinary(self):
        self.assertEqual(best_plain(((1, None, 8), (5, 2, None))), (13, (2, 0)))
        self.assertEqual(best_plain(((10, None, 8), (5, 2, None))), (13, (2, 0)))
        self.assertEqual(best_plain(((12, None, 8), (5, 2, None))), (14, (0, 1)))

    def test_one_word(self):
        for worth in [-10 ** 9, -1, 0, 7]:
            self.assertEqual(best_plain(((worth, None),)), (worth, (0,)))
        self.assertIs(best_plain(((None, None),)), None)

    def test_better_ones_cross(self):
        w = even_table(3, 0)
        for way in [(0, 3), (1, 0), (2, 2)]:
            w = put_at(w, way, 9)
        self.assertEqual(best_any(w), (27, (3, 0, 2)))
        self.assertEqual(best_plain(w), (18, (2, 0, 2)))

    def test_of_like_ones_the_least(self):
        for n in range(1, 7):
            for worth in [-10 ** 9, 0, 3]:
                self.assertEqual(best_plain(even_table(n, worth)), (n * worth, PLAIN[n][0]))
        self.assertEqual(best_plain(even_table(12, -5)), (-60, (0,) + (1,) * 11))
        # (0, 3, 1), (2, 3, 0) and (3, 3, 0) have 5 for word 2 on word 3; the least of them goes.
        self.assertEqual(best_plain(put_at(even_table(3, 1), (1, 3), 5)), (7, (0, 3, 1)))

    def test_none_may_be(self):
        for n in (1, 2, 3, 12):
            self.assertIs(best_plain(even_table(n, None)), None)
        no_top = tuple((None,) + row[1:] for row in even_table(4, 1))
        self.assertIs(best_plain(no_top), None)
        crossing_alone = ((None, None, None, 2), (3, None, None, None), (None, None, 5, None))
        self.assertEqual(best_any(crossing_alone), (10, (3, 0, 2)))
        self.assertIs(best_plain(crossing_alone), None)

    def test_all_gone_through(self):
        nones = 0
        for n in range(1, 6):
            for seed in range(30):
                high = [0, 1, 3, 10 ** 9][seed % 4]
                w = some_table(seed, n, -high, high, 12 * (seed % 6))
                due = plain_in_order(w)[:1] or [None]
                self.assertEqual(best_plain(w), due[0], w)
                nones += due == [None]
        self.assertGreater(nones, 0)

    def test_six_words(self):
        for seed in range(10):
            w = some_table(seed, 6, -1, 1, 10 * (seed % 4))
            self.assertEqual(best_plain(w), (plain_in_order(w)[:1] or [None])[0], w)

    def test_one_plain_hanging_is_set_apart(self):
        for seed in range(12):
            h = some_plain(seed, 12)
            w = tuple(tuple(worth if on != h[at] else 100 for on, worth in enumerate(row))
                      for at, row in enumerate(some_table(seed, 12, -50, 50, 10)))
            self.assertEqual(best_plain(w), (1200, h))

    def test_twelve_words(self):
        for seed in range(12):
            w = some_table(seed, 12, -10 ** 9, 10 ** 9, 5 * seed)
            worth, h = best_plain(w)
            self.assertEqual(worth, worth_of(w, h))
            self.assertEqual(crossings_gone_through(h), [])
            self.assertLessEqual(worth, best_any(w)[0])
            for other in range(60):
                much = worth_of(w, some_plain(other, 12))
                self.assertTrue(much is None or much <= worth)
            # By the words of the document: the greatest of what the spans tell for each top.
            told = {row[:2]: row[2:] for row in spans(w)}
            tops = [
                (w[top - 1][0], told[(1, top)][2] if top > 1 else 0, told[(top, 12)][0] if top < 12 else 0)
                for top in range(1, 13)
            ]
            self.assertEqual(worth, max(sum(parts) for parts in tops if None not in parts))

    def test_the_best_of_all_where_it_is_plain(self):
        plain = 0
        for seed in range(60):
            w = some_table(seed, 5, -20, 20, 10)
            best = in_order(w)[0]
            if not crossings_gone_through(best[1]):
                self.assertEqual(best_plain(w), best)
                plain += 1
        self.assertGreater(plain, 10)

    def test_the_best_with_kinds_without_limits(self):
        for seed in range(8):
            w = some_table(seed, 10, -20, 20, 30)
            t = tuple(tuple(() if worth is None else (("a", worth), ("b", worth - 1)) for worth in row) for row in w)
            worth, h = best_plain(w)
            self.assertEqual(best_kinds(t, []), (worth, h, ("a",) * 10))
            self.assertEqual(best_kinds(t, [("a", 0)]), (worth - 10, h, ("b",) * 10))

    def test_hangings_that_cross_are_none(self):
        for seed in range(20):
            h = some_hanging(seed, 8)
            w = tuple(tuple(1 if on == h[at] else None for on in range(9)) for at in range(8))
            self.assertEqual(best_plain(w), None if crossings_gone_through(h) else (8, h))
