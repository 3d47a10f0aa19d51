"""Point 10: the first so many of all hangings."""

import unittest

from hungwords.anybest import best_any
from hungwords.anyseveral import first_any, lead_any
from hungwords.hangings import is_hanging
from hungwords.worths import worth_of
from tests.helper import even_table, in_order, put_at, some_table


def some_tables():
    for seed in range(150):
        yield some_table(seed, 1 + seed % 4, -(seed % 4), seed % 6, (seed * 11) % 80)
    for seed in range(8):
        yield some_table(seed, 5, -3, seed, seed * 6)


class FirstAnyTest(unittest.TestCase):
    def test_against_all_gone_through(self):
        for w in some_tables():
            pairs = in_order(w)
            for many in (0, 1, 2, 7, 60):
                self.assertEqual(first_any(w, many), pairs[:many], w)

    def test_all_of_them(self):
        w = some_table(2, 4, -2, 2, 5)
        self.assertEqual(first_any(w, 64), in_order(w))
        self.assertEqual(first_any(w, 1000), in_order(w))
        self.assertEqual(first_any(even_table(4, 1), 60), in_order(even_table(4, 1))[:60])

    def test_none_asked_for(self):
        self.assertEqual(first_any(even_table(3, 1), 0), [])
        self.assertEqual(first_any(even_table(3, None), 0), [])

    def test_one_word(self):
        self.assertEqual(first_any(((4, None),), 60), [(4, (0,))])
        self.assertEqual(first_any(((None, None),), 60), [])

    def test_none_or_few_may_be(self):
        self.assertEqual(first_any(even_table(12, None), 60), [])
        self.assertEqual(first_any(((1, None, None), (1, None, None)), 60), [])
        self.assertEqual(first_any(((1, None, 3), (1, None, None)), 60), [(4, (2, 0))])
        self.assertEqual(first_any(((1, None, 3), (1, 3, None)), 60), [(4, (0, 1)), (4, (2, 0))])

    def test_sixty_of_twelve_words(self):
        for seed in range(3):
            w = some_table(seed, 12, -10 ** 9 if seed else 0, 10 ** 9 if seed else 3, seed * 10)
            told = first_any(w, 60)
            self.assertEqual(told[0], best_any(w))
            self.assertEqual(told, sorted(told, key=lambda pair: (-pair[0], pair[1])))
            self.assertEqual(len({h for worth, h in told}), 60)
            for worth, h in told:
                self.assertTrue(is_hanging(h))
                self.assertEqual(worth_of(w, h), worth)
            self.assertEqual(first_any(w, 17), told[:17])

    def test_like_ones_of_twelve_words_rise(self):
        told = first_any(even_table(12, 5), 13)
        self.assertEqual(told[:2], [(60, (0,) + (1,) * 11), (60, (0,) + (1,) * 10 + (2,))])
        self.assertEqual([h[-2:] for worth, h in told[:11]], [(1, on) for on in range(1, 12)])
        self.assertEqual([h[-2:] for worth, h in told[11:]], [(2, 1), (2, 2)])

    def test_none_left_out_of_twelve_words(self):
        # One word alone has a choice, so all hangings are known: it may hang on each that isn't under it.
        base = tuple(tuple(0 if on == word - 1 else None for on in range(13)) for word in range(1, 13))
        w = put_at(base, (11,), tuple(range(-1, 11)) + (None,))
        w = put_at(w, (11, 0), None)
        due = [(on - 1, tuple(range(11)) + (on,)) for on in range(11, 0, -1)]
        self.assertEqual(first_any(w, 60), due)

    def test_what_is_told_is_the_askers_own(self):
        w = even_table(3, 2)
        told = first_any(w, 5)
        kept = list(told)
        told.clear()
        self.assertEqual(first_any(w, 5), kept)


class LeadAnyTest(unittest.TestCase):
    def test_against_all_gone_through(self):
        for w in some_tables():
            pairs = in_order(w)
            due = pairs[0][0] - pairs[1][0] if len(pairs) > 1 else None
            self.assertEqual(lead_any(w), due)

    def test_edges(self):
        self.assertIs(lead_any(((4, None),)), None)
        self.assertIs(lead_any(((None, None),)), None)
        self.assertIs(lead_any(((1, None, 3), (1, None, None))), None)
        self.assertEqual(lead_any(((1, None, 3), (1, 3, None))), 0)
        self.assertEqual(lead_any(((1, None, 3), (1, -5, None))), 8)
        self.assertEqual(lead_any(even_table(12, 7)), 0)
