"""Point 5: ties, crossings, and what is plain."""

import unittest

from hungwords.hangings import is_hanging
from hungwords.plain import crossings, gappy, is_plain, stretch, ties, turned
from tests.helper import (
    comes_to_none, crossings_gone_through, hangings_gone_through, some_hanging, some_plain, tie_by_words,
)

H = (3, 1, 0, 1, 3, 5)
SOME = [h for n in range(1, 6) for h in hangings_gone_through(n)] + [some_hanging(seed, 12) for seed in range(40)]


def under(h, word):
    """The words from which the way up comes to word, by going all ways."""
    found = []
    for at in range(1, len(h) + 1):
        way = at
        while way not in (0, word):
            way = h[way - 1]
        if way == word:
            found.append(at)
    return found


class TiesTest(unittest.TestCase):
    def test_ordinary(self):
        self.assertEqual(ties(H), [(0, 3), (1, 2), (1, 3), (1, 4), (3, 5), (5, 6)])
        self.assertEqual(ties((2, 0)), [(0, 2), (1, 2)])
        self.assertEqual(ties((0, 1)), [(0, 1), (1, 2)])

    def test_one_word(self):
        self.assertEqual(ties((0,)), [(0, 1)])
        self.assertEqual(crossings((0,)), [])
        self.assertIs(is_plain((0,)), True)

    def test_all_of_few_words(self):
        for h in SOME:
            self.assertEqual(ties(h), sorted(tie_by_words(h, word) for word in range(1, len(h) + 1)))

    def test_the_list_is_the_askers_own(self):
        for ask in (ties, crossings, gappy):
            first = ask(H)
            kept = list(first)
            first.append(None)
            self.assertEqual(ask(H), kept)
            self.assertIsNot(ask(H), ask(H))


class CrossingsTest(unittest.TestCase):
    def test_ordinary(self):
        self.assertEqual(crossings(H), [((0, 3), (1, 4)), ((1, 4), (3, 5))])
        self.assertEqual(crossings((3, 4, 0, 3)), [((0, 3), (2, 4)), ((1, 3), (2, 4))])
        self.assertEqual(crossings((0, 1, 2, 3)), [])

    def test_a_tie_to_none_that_crosses(self):
        self.assertEqual(crossings((3, 0, 2)), [((0, 2), (1, 3))])
        self.assertIs(is_plain((3, 0, 2)), False)
        self.assertEqual(crossings((4, 1, 0, 3)), [((0, 3), (1, 4))])

    def test_ties_with_an_end_in_common_do_not(self):
        self.assertEqual(crossings((2, 0, 2)), [])
        self.assertEqual(crossings((0, 1, 1, 1)), [])
        self.assertEqual(crossings((4, 4, 4, 0)), [])
        self.assertIs(is_plain((4, 4, 4, 0)), True)

    def test_all_of_few_words(self):
        for h in SOME:
            self.assertEqual(crossings(h), crossings_gone_through(h))
            self.assertIs(is_plain(h), not crossings_gone_through(h))

    def test_plain_ones_of_many_words(self):
        for seed in range(40):
            self.assertIs(is_plain(some_plain(seed, 12)), True)


class StretchTest(unittest.TestCase):
    def test_ordinary(self):
        self.assertEqual([stretch(H, word) for word in range(1, 7)], [(1, 4), (2, 2), (1, 6), (4, 4), (5, 6), (6, 6)])
        self.assertEqual(gappy(H), [1])
        self.assertEqual(stretch((0,), 1), (1, 1))
        self.assertEqual(gappy((0,)), [])
        self.assertEqual(gappy((3, 4, 0, 3)), [4])
        self.assertEqual(gappy((3, 0, 2)), [3])
        self.assertEqual(gappy((0, 4, 5, 1, 1)), [4, 5])

    def test_all_of_few_words(self):
        for h in SOME:
            words = range(1, len(h) + 1)
            for word in words:
                self.assertEqual(stretch(h, word), (min(under(h, word)), max(under(h, word))))
            due = [
                word for word in words
                if any(at not in under(h, word) for at in range(min(under(h, word)), max(under(h, word)) + 1))
            ]
            self.assertEqual(gappy(h), due)
            self.assertEqual(gappy(h) == [], is_plain(h))


class TurnedTest(unittest.TestCase):
    def test_ordinary(self):
        self.assertEqual(turned((0,)), (0,))
        self.assertEqual(turned((0, 1)), (2, 0))
        self.assertEqual(turned((0, 1, 2)), (2, 3, 0))
        self.assertEqual(turned(H), (2, 4, 6, 0, 6, 4))

    def test_all_of_few_words(self):
        for h in SOME:
            n = len(h)
            back = turned(h)
            self.assertIsInstance(back, tuple)
            for word in range(1, n + 1):
                on = h[word - 1]
                self.assertEqual(back[n - word], n + 1 - on if on else 0)
                self.assertTrue(comes_to_none(back, word))
            self.assertTrue(is_hanging(back))
            self.assertEqual(turned(back), h)
            # The end of the row is no word, as its beginning is, so that a tie to none may cross another way then.
            words_alone = [pair for pair in crossings(h) if pair[0][0] > 0]
            self.assertEqual(len([pair for pair in crossings(back) if pair[0][0] > 0]), len(words_alone))
