"""Point 4: hangings."""

import itertools
import unittest

from hungwords.errors import HangError, NoHanging
from hungwords.hangings import all_under, depth, hung_on, is_hanging, rehung, top, way_up
from tests.helper import WRONG_NUMBERS, WRONG_THINGS, hangings_gone_through, put_at, some_hanging

MANY = 900
DOWN = tuple(range(MANY))
UP = tuple(range(2, MANY + 1)) + (0,)


class IsHangingTest(unittest.TestCase):
    def test_all_tuples_of_few_words(self):
        for n in range(1, 5):
            right = hangings_gone_through(n)
            self.assertEqual(len(right), n ** (n - 1))
            for ons in itertools.product(range(-1, n + 2), repeat=n):
                self.assertIs(is_hanging(ons), ons in right, ons)

    def test_one_word(self):
        self.assertIs(is_hanging((0,)), True)
        self.assertIs(is_hanging((1,)), False)
        self.assertIs(is_hanging((-1,)), False)
        self.assertIs(is_hanging((2,)), False)

    def test_no_word(self):
        self.assertIs(is_hanging(()), False)

    def test_many_words(self):
        self.assertIs(is_hanging(DOWN), True)
        self.assertIs(is_hanging(UP), True)
        self.assertIs(is_hanging((0,) + (1,) * MANY), True)
        self.assertIs(is_hanging((MANY,) + DOWN[1:]), False)
        self.assertIs(is_hanging((0, MANY) + DOWN[2:]), False)
        self.assertIs(is_hanging(tuple(range(20000))), True)

    def test_rings_with_a_top_beside_them(self):
        for ons in [(0, 3, 2), (2, 1, 0), (0, 2), (0, 3, 4, 2), (2, 3, 1, 0, 4), (0, 1, 4, 3), (3, 0, 1, 1)]:
            self.assertIs(is_hanging(ons), False, ons)

    def test_two_tops_or_none(self):
        for ons in [(0, 0), (2, 1), (0, 1, 0), (2, 3, 1)]:
            self.assertIs(is_hanging(ons), False, ons)

    def test_numbers_beyond(self):
        for wrong in [-1, -10 ** 40, 4, 10 ** 40]:
            for at in range(3):
                self.assertIs(is_hanging(put_at((2, 0, 2), (at,), wrong)), False)

    def test_wrong_kinds_at_each_place(self):
        for h in [(0,), (0, 1), (2, 0, 2), (2, 3, 4, 0)]:
            for at in range(len(h)):
                for wrong in WRONG_NUMBERS + [None]:
                    self.assertIs(is_hanging(put_at(h, (at,), wrong)), False, (h, at, wrong))
        self.assertIs(is_hanging((False, True)), False)
        self.assertIs(is_hanging((0, True)), False)
        self.assertIs(is_hanging((False, 1)), False)

    def test_wrong_kinds_of_the_whole(self):
        for wrong in WRONG_THINGS + [[0], [0, 1], "01", ((0, 1),), ([0, 1],)]:
            self.assertIs(is_hanging(wrong), False, wrong)

    def test_one_more_or_one_fewer(self):
        self.assertIs(is_hanging((2, 3, 0)), True)
        self.assertIs(is_hanging((2, 3)), False)
        self.assertIs(is_hanging((2, 3, 0, 0)), False)
        self.assertIs(is_hanging((2, 3, 0, None)), False)


class AskedOfHangingsTest(unittest.TestCase):
    H = (3, 1, 0, 1, 3, 5)

    def test_top(self):
        self.assertEqual(top(self.H), 3)
        self.assertEqual(top((0,)), 1)
        self.assertEqual(top(DOWN), 1)
        self.assertEqual(top(UP), MANY)

    def test_hung_on(self):
        self.assertEqual([hung_on(self.H, word) for word in range(7)], [[3], [2, 4], [], [1, 5], [], [6], []])
        self.assertEqual([hung_on((0,), word) for word in range(2)], [[1], []])
        self.assertEqual(hung_on(DOWN, 0), [1])
        self.assertEqual(hung_on(DOWN, MANY - 1), [MANY])

    def test_all_under(self):
        told = [all_under(self.H, word) for word in range(1, 7)]
        self.assertEqual(told, [[1, 2, 4], [2], [1, 2, 3, 4, 5, 6], [4], [5, 6], [6]])
        self.assertEqual(all_under((0,), 1), [1])
        self.assertEqual(all_under(DOWN, 2), list(range(2, MANY + 1)))
        self.assertEqual(all_under(UP, MANY), list(range(1, MANY + 1)))

    def test_way_up(self):
        told = [way_up(self.H, word) for word in range(1, 7)]
        self.assertEqual(told, [[1, 3], [2, 1, 3], [3], [4, 1, 3], [5, 3], [6, 5, 3]])
        self.assertEqual(way_up((0,), 1), [1])
        self.assertEqual(way_up(DOWN, MANY), list(range(MANY, 0, -1)))

    def test_depth(self):
        self.assertEqual(depth(self.H), 3)
        self.assertEqual(depth((0,)), 1)
        self.assertEqual(depth((0, 1, 1)), 2)
        self.assertEqual(depth((4, 1, 2, 0, 4)), 4)
        self.assertEqual(depth(DOWN), MANY)
        self.assertEqual(depth(UP), MANY)

    def test_each_agrees_with_the_others(self):
        some = hangings_gone_through(4) + [some_hanging(seed, 40) for seed in range(20)]
        for h in some:
            words = range(1, len(h) + 1)
            ways = {word: way_up(h, word) for word in words}
            for word in words:
                self.assertEqual(ways[word][0], word)
                self.assertEqual(ways[word][1:], ways[h[word - 1]] if h[word - 1] else [])
                self.assertEqual(all_under(h, word), [other for other in words if word in ways[other]])
                self.assertEqual(hung_on(h, word), [other for other in words if h[other - 1] == word])
            self.assertEqual([top(h)], hung_on(h, 0))
            self.assertEqual(depth(h), max(len(way) for way in ways.values()))

    def test_what_is_told_is_the_askers_own(self):
        for ask in (lambda: hung_on(self.H, 1), lambda: all_under(self.H, 1), lambda: way_up(self.H, 2)):
            first = ask()
            kept = list(first)
            first.append(99)
            self.assertEqual(ask(), kept)
            self.assertIsNot(ask(), ask())


class RehungTest(unittest.TestCase):
    def test_all_of_few_words(self):
        for n in range(1, 5):
            right = hangings_gone_through(n)
            for h in right:
                for word, on in itertools.product(range(1, n + 1), range(n + 1)):
                    due = h[:word - 1] + (on,) + h[word:]
                    if due in right:
                        self.assertEqual(rehung(h, word, on), due)
                    else:
                        self.assertRaises(NoHanging, rehung, h, word, on)

    def test_ordinary(self):
        self.assertEqual(rehung((0, 1, 2), 3, 1), (0, 1, 1))
        self.assertEqual(rehung((0, 1, 2), 3, 2), (0, 1, 2))
        self.assertEqual(rehung((0,), 1, 0), (0,))

    def test_refused(self):
        cases = [
            ((0,), 1, 1), ((0, 1, 2), 2, 2), ((0, 1, 2), 1, 1), ((0, 1, 2), 2, 3), ((0, 1, 2), 1, 3),
            ((0, 1, 2), 2, 0), ((0, 1, 2), 3, 0),
        ]
        for h, word, on in cases:
            with self.assertRaises(HangError) as caught:
                rehung(h, word, on)
            self.assertIs(type(caught.exception), NoHanging)

    def test_many_words(self):
        self.assertEqual(rehung(DOWN, MANY, 1), DOWN[:-1] + (1,))
        self.assertRaises(NoHanging, rehung, DOWN, 2, MANY)
