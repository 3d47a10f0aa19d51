"""Point 8: the first so many of all plain hangings."""

import itertools
import unittest

from hungwords.anyseveral import first_any
from hungwords.several import first_plain, lead_plain
from hungwords.spans import best_plain
from hungwords.worths import worth_of
from tests.helper import (
    PLAIN, comes_to_none, crossings_gone_through, even_table, in_order, plain_in_order, put_at, some_plain, some_table,
)

# Words 1, 2 and 3 are worth most where they cross.
CROSSED = put_at(put_at(put_at(even_table(3, 0), (0, 3), 9), (1, 0), 9), (2, 2), 9)


def some_tables():
    for seed in range(150):
        yield some_table(seed, 1 + seed % 4, -(seed % 4), seed % 6, (seed * 11) % 80)
    for seed in range(12):
        yield some_table(seed, 5, -3, seed, seed * 6)
    for seed in range(3):
        yield some_table(seed, 6, -10 ** 9, 10 ** 9, seed * 20)


class FirstPlainTest(unittest.TestCase):
    def test_ordinary(self):
        self.assertEqual(first_plain(((1, None, 8), (5, 2, None)), 60), [(13, (2, 0)), (3, (0, 1))])
        self.assertEqual(first_plain(((1, None, 8), (5, 2, None)), 1), [(13, (2, 0))])

    def test_those_that_cross_are_none(self):
        self.assertEqual(first_any(CROSSED, 1), [(27, (3, 0, 2))])
        told = first_plain(CROSSED, 60)
        self.assertEqual(told[:2], [(18, (2, 0, 2)), (9, (0, 1, 2))])
        self.assertEqual(sorted(h for worth, h in told), PLAIN[3])

    def test_against_all_gone_through(self):
        for w in some_tables():
            pairs = plain_in_order(w)
            for many in (0, 1, 2, 7, 60):
                self.assertEqual(first_plain(w, many), pairs[:many], w)

    def test_all_of_them(self):
        for n in range(1, 5):
            for w in (even_table(n, -3), some_table(n, n, -2, 2, 5)):
                self.assertEqual(first_plain(w, 31), plain_in_order(w))
                self.assertEqual(first_plain(w, 60), plain_in_order(w))

    def test_none_asked_for(self):
        self.assertEqual(first_plain(even_table(3, 1), 0), [])
        self.assertEqual(first_plain(even_table(3, None), 0), [])

    def test_one_word(self):
        self.assertEqual(first_plain(((4, None),), 60), [(4, (0,))])
        self.assertEqual(first_plain(((-4, None),), 1), [(-4, (0,))])
        self.assertEqual(first_plain(((None, None),), 60), [])

    def test_none_or_few_may_be(self):
        self.assertEqual(first_plain(even_table(12, None), 60), [])
        self.assertEqual(first_plain(((1, None, None), (1, None, None)), 60), [])
        self.assertEqual(first_plain(((1, None, 3), (1, None, None)), 60), [(4, (2, 0))])
        # The one that may be crosses.
        w = tuple(tuple(1 if on == (3, 0, 2)[at] else None for on in range(4)) for at in range(3))
        self.assertEqual(len(in_order(w)), 1)
        self.assertEqual(first_plain(w, 60), [])

    def test_like_ones_rise(self):
        self.assertEqual(first_plain(((1, None, 3), (1, 3, None)), 60), [(4, (0, 1)), (4, (2, 0))])
        self.assertEqual(first_plain(even_table(4, 2), 30), [(8, h) for h in PLAIN[4]])
        # The least plain ones of 12 words have their first nine words on the first one.
        rows = [(0,) + (1,) * 8 + ons for ons in itertools.product(range(1, 13), repeat=3)]
        due = [h for h in rows if all(comes_to_none(h, word) for word in (10, 11, 12))]
        due = [h for h in due if not crossings_gone_through(h)]
        self.assertEqual(first_plain(even_table(12, 5), len(due)), [(60, h) for h in due])
        self.assertGreater(len(due), 14)

    def test_sixty_of_twelve_words(self):
        for seed in range(3):
            w = some_table(seed, 12, -10 ** 9 if seed else 0, 10 ** 9 if seed else 3, seed * 10)
            told = first_plain(w, 60)
            self.assertEqual(told[0], best_plain(w))
            self.assertEqual(told, sorted(told, key=lambda pair: (-pair[0], pair[1])))
            self.assertEqual(len({h for worth, h in told}), 60)
            for worth, h in told:
                self.assertEqual(crossings_gone_through(h), [])
                self.assertEqual(worth_of(w, h), worth)
            self.assertEqual(first_plain(w, 17), told[:17])
            # Those that aren't told stand behind the last one that is.
            for other in range(60):
                h = some_plain(other, 12)
                worth = worth_of(w, h)
                if worth is not None and (worth, h) not in told:
                    self.assertLess((-told[-1][0], told[-1][1]), (-worth, h))

    def test_those_of_all_that_do_not_cross(self):
        for seed in range(4):
            w = some_table(seed, 9, 0, 30, 45)
            plain = [pair for pair in first_any(w, 60) if not crossings_gone_through(pair[1])]
            self.assertEqual(first_plain(w, len(plain)), plain)

    def test_none_left_out_of_twelve_words(self):
        # One word alone has a choice, so all hangings are known, and all are plain.
        base = tuple(tuple(0 if on == word - 1 else None for on in range(13)) for word in range(1, 13))
        w = put_at(base, (11,), (None,) + tuple(range(11)) + (None,))
        due = [(on - 1, tuple(range(11)) + (on,)) for on in range(11, 0, -1)]
        self.assertEqual(first_plain(w, 60), due)

    def test_what_is_told_is_the_askers_own(self):
        w = even_table(3, 2)
        told = first_plain(w, 5)
        kept = list(told)
        told.clear()
        self.assertEqual(first_plain(w, 5), kept)
        self.assertEqual(w, even_table(3, 2))


class LeadPlainTest(unittest.TestCase):
    def test_against_all_gone_through(self):
        for w in some_tables():
            pairs = plain_in_order(w)
            due = pairs[0][0] - pairs[1][0] if len(pairs) > 1 else None
            self.assertEqual(lead_plain(w), due)

    def test_edges(self):
        self.assertIs(lead_plain(((4, None),)), None)
        self.assertIs(lead_plain(((None, None),)), None)
        self.assertIs(lead_plain(((1, None, 3), (1, None, None))), None)
        self.assertEqual(lead_plain(((1, None, 3), (1, 3, None))), 0)
        self.assertEqual(lead_plain(((1, None, 3), (1, -5, None))), 8)
        self.assertEqual(lead_plain(even_table(12, 7)), 0)

    def test_those_that_cross_do_not_count(self):
        self.assertEqual(lead_plain(CROSSED), 9)
        w = tuple(tuple(1 if on == (3, 0, 2)[at] else None for on in range(4)) for at in range(3))
        self.assertIs(lead_plain(put_at(w, (0, 2), 5)), None)
        self.assertEqual(len(first_any(put_at(w, (0, 2), 5), 2)), 2)
