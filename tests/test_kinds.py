"""Point 16: kinds of ties, with limits."""

import itertools
import random
import unittest

from hungwords.anybest import best_any
from hungwords.kinds import best_kinds, is_kinds, is_within, kinds_worth
from tests.helper import (
    WRONG_NUMBERS, WRONG_THINGS, at_way, comes_to_none, crossings_gone_through, other_kind, plain_gone_through,
    put_at, ways_down,
)

NAMES = ["a", "b", "cc", "d"]
T = (
    ((("obj", 4), ("subj", 9)), (), (("subj", -3),)),
    ((("obj", 10 ** 9), ("root", 0), ("subj", -10 ** 9)), (), ()),
)
WRONG_NAMES = ["", "abcdefghi", "A", "aB", "a b", "a1", "a-b", " a", "a\n", "\u00e4", "\u0430", "\u00df", None, True,
               False, 0, 5, (), ("a",), ["a"], [], ("a", "b")]


def some_kinds(seed, n, names, high):
    """A kind table by a seed, with worths from -high to high."""
    chance = random.Random(seed)
    return tuple(
        tuple(
            () if on == word else tuple(
                (name, chance.randint(-high, high)) for name in names if chance.randrange(100) < 60
            )
            for on in range(n + 1)
        )
        for word in range(1, n + 1)
    )


def even_kinds(n, names, worth):
    """The kind table of n words with the same names, of one worth, for all entries but own ones."""
    entry = tuple((name, worth) for name in names)
    return tuple(tuple(() if on == word else entry for on in range(n + 1)) for word in range(1, n + 1))


def within_by_words(h, kinds, limits):
    """Whether within the limits, by the words of the document."""
    for on in range(len(h) + 1):
        for kind, many in limits:
            if sum(1 for at in range(len(h)) if h[at] == on and kinds[at] == kind) > many:
                return False
    return True


def best_due(t, limits, names):
    """The best one by going through all plain hangings with all kinds."""
    found = []
    for h in plain_gone_through(len(t)):
        for kinds in itertools.product(names, repeat=len(t)):
            worths = [dict(t[at][on]).get(kinds[at]) for at, on in enumerate(h)]
            if None not in worths and within_by_words(h, kinds, limits):
                found.append((-sum(worths), h, kinds))
    if not found:
        return None
    worth, h, kinds = min(found)
    return -worth, h, kinds


class IsKindsTest(unittest.TestCase):
    def test_tables(self):
        for right in [T, (((), ()),), (((("a", 0),), ()),), even_kinds(3, [], 0), even_kinds(30, NAMES, -10 ** 30)]:
            self.assertIs(is_kinds(right), True)
        for seed in range(20):
            self.assertIs(is_kinds(some_kinds(seed, 1 + seed % 10, NAMES, 9)), True)

    def test_names_and_worths_of_any_size(self):
        for name in ["a", "z", "az", "abcdefgh", "zzzzzzzz"]:
            for worth in [0, -1, 10 ** 9 + 1, -10 ** 400]:
                self.assertIs(is_kinds(((((name, worth),), ()),)), True)
        many = tuple((a + b, 1) for a in "abcdefghij" for b in "abcdefghij")
        self.assertIs(is_kinds(((many, ()),)), True)

    def test_wrong_names(self):
        for wrong in WRONG_NAMES:
            self.assertIs(is_kinds(((((wrong, 1),), ()),)), False, wrong)
            for way in ways_down(T):
                if len(way) == 4 and way[-1] == 0:
                    self.assertIs(is_kinds(put_at(T, way, wrong)), False, (way, wrong))

    def test_wrong_worths(self):
        for way in ways_down(T):
            if len(way) == 4 and way[-1] == 1:
                for wrong in WRONG_NUMBERS + [None]:
                    self.assertIs(is_kinds(put_at(T, way, wrong)), False, (way, wrong))

    def test_wrong_pairs(self):
        for way in ways_down(T):
            if len(way) == 3:
                pair = at_way(T, way)
                for wrong in WRONG_THINGS + [pair + (1,), pair[:1], pair[1:], pair[::-1], list(pair), (pair,), "ab"]:
                    self.assertIs(is_kinds(put_at(T, way, wrong)), False, (way, wrong))

    def test_wrong_entries(self):
        for way in ways_down(T):
            if len(way) == 2:
                entry = at_way(T, way)
                for wrong in WRONG_THINGS + [list(entry), ("a", 1), (("a", 1), None), (("a", 1), ()), "ab"]:
                    if wrong != ():
                        self.assertIs(is_kinds(put_at(T, way, wrong)), False, (way, wrong))

    def test_kinds_that_do_not_rise(self):
        for names in ["aa", "ba", "aba", "aab", "abb", "acb", "bab"]:
            entry = tuple((name, at) for at, name in enumerate(names))
            self.assertIs(is_kinds(put_at(T, (0, 0), entry)), False, names)
            self.assertIs(is_kinds(put_at(T, (1, 1), entry)), False, names)
        self.assertIs(is_kinds(put_at(T, (0, 0), (("a", 1), ("a", 1)))), False)
        self.assertIs(is_kinds(put_at(T, (0, 0), (("ab", 1), ("b", 1)))), True)
        self.assertIs(is_kinds(put_at(T, (0, 0), (("b", 1), ("ab", 1)))), False)

    def test_own_entries_have_none(self):
        for n in (1, 2, 3, 10):
            for word in range(1, n + 1):
                for wrong in [(("a", 1),), (("a", 0), ("b", 0)), None, 0, "", []]:
                    self.assertIs(is_kinds(put_at(even_kinds(n, ["a"], 1), (word - 1, word), wrong)), False)

    def test_wrong_rows_and_wholes(self):
        for t in [T, (((), ()),), even_kinds(3, ["a"], 1)]:
            for at in range(len(t)):
                for wrong in WRONG_THINGS + ["a" * (len(t) + 1)]:
                    self.assertIs(is_kinds(put_at(t, (at,), wrong)), False, (at, wrong))
        for wrong in WRONG_THINGS:
            self.assertIs(is_kinds(wrong), False, wrong)

    def test_lists_for_tuples(self):
        for way in ways_down(T):
            if isinstance(at_way(T, way), tuple):
                self.assertIs(is_kinds(put_at(T, way, other_kind(at_way(T, way)))), False, way)

    def test_one_more_or_one_fewer(self):
        for t in [T, even_kinds(3, ["a"], 1), even_kinds(3, [], 1)]:
            for at in range(len(t)):
                self.assertIs(is_kinds(put_at(t, (at,), t[at] + ((),))), False)
                self.assertIs(is_kinds(put_at(t, (at,), t[at][:-1])), False)
                self.assertIs(is_kinds(t[:at] + t[at + 1:]), False)
                self.assertIs(is_kinds(t + (t[at],)), False)
        self.assertIs(is_kinds((((),),)), False)
        self.assertIs(is_kinds((((), (), ()),)), False)


class KindsWorthTest(unittest.TestCase):
    def test_ordinary(self):
        self.assertEqual(kinds_worth(T, (2, 0), ("subj", "obj")), 10 ** 9 - 3)
        self.assertEqual(kinds_worth(T, (2, 0), ("subj", "root")), -3)
        self.assertIs(kinds_worth(T, (2, 0), ("obj", "root")), None)
        self.assertIs(kinds_worth(T, (0, 1), ("obj", "obj")), None)
        self.assertIs(kinds_worth(T, (2, 0), ("subj", "x")), None)

    def test_one_word(self):
        t = (((("a", -2), ("b", 0)), ()),)
        self.assertEqual(kinds_worth(t, (0,), ("a",)), -2)
        self.assertEqual(kinds_worth(t, (0,), ("b",)), 0)
        self.assertIs(kinds_worth(t, (0,), ("c",)), None)

    def test_hangings_that_are_not_plain(self):
        t = even_kinds(3, ["a"], 5)
        self.assertEqual(kinds_worth(t, (3, 0, 2), ("a", "a", "a")), 15)


class IsWithinTest(unittest.TestCase):
    def test_ordinary(self):
        h, kinds = (2, 0, 2, 3), ("a", "b", "a", "a")
        self.assertIs(is_within(h, kinds, []), True)
        self.assertIs(is_within(h, kinds, [("a", 2)]), True)
        self.assertIs(is_within(h, kinds, [("a", 1)]), False)
        self.assertIs(is_within(h, kinds, [("b", 1)]), True)
        self.assertIs(is_within(h, kinds, [("b", 1), ("a", 1)]), False)
        self.assertIs(is_within(h, kinds, [("b", 1), ("a", 2)]), True)

    def test_limits_of_nought(self):
        self.assertIs(is_within((0, 1), ("a", "b"), [("b", 0)]), False)
        self.assertIs(is_within((0, 1), ("a", "b"), [("c", 0)]), True)

    def test_words_on_none_are_counted(self):
        self.assertIs(is_within((0,), ("a",), [("a", 0)]), False)
        self.assertIs(is_within((0,), ("a",), [("a", 1)]), True)
        self.assertIs(is_within((0, 1), ("a", "b"), [("a", 0)]), False)
        # What hangs on 0 isn't counted with what hangs on a word.
        self.assertIs(is_within((0, 1), ("a", "a"), [("a", 1)]), True)

    def test_all_of_few_words(self):
        limits = [[], [("a", 0)], [("a", 1)], [("b", 2), ("a", 1)], [("cc", 3), ("b", 0)], [("a", 1), ("b", 1)]]
        for h in plain_gone_through(4):
            for kinds in itertools.product(["a", "b"], repeat=4):
                for some in limits:
                    self.assertIs(is_within(h, kinds, some), within_by_words(h, kinds, some))


class BestKindsTest(unittest.TestCase):
    def test_ordinary(self):
        self.assertEqual(best_kinds(T, []), (10 ** 9 - 3, (2, 0), ("subj", "obj")))
        self.assertEqual(best_kinds(T, [("obj", 0)]), (-3, (2, 0), ("subj", "root")))
        self.assertEqual(best_kinds(T, [("root", 0), ("obj", 0)]), (-10 ** 9 - 3, (2, 0), ("subj", "subj")))
        self.assertIs(best_kinds(T, [("subj", 0)]), None)

    def test_one_word(self):
        t = (((("a", 5), ("b", 5), ("c", 3)), ()),)
        self.assertEqual(best_kinds(t, []), (5, (0,), ("a",)))
        self.assertEqual(best_kinds(t, [("a", 0)]), (5, (0,), ("b",)))
        self.assertEqual(best_kinds(t, [("a", 0), ("b", 0)]), (3, (0,), ("c",)))
        self.assertEqual(best_kinds(t, [("a", 1), ("b", 0)]), (5, (0,), ("a",)))
        self.assertIs(best_kinds((((), ()),), []), None)

    def test_entries_without_any(self):
        for n in (1, 2, 3, 10):
            self.assertIs(best_kinds(even_kinds(n, [], 0), []), None)
            self.assertIs(best_kinds(even_kinds(n, [], 0), [("a", 1)]), None)
        self.assertIs(best_kinds(put_at(even_kinds(3, ["a"], 1), (1,), ((),) * 4), []), None)

    def test_of_like_ones_the_least(self):
        self.assertEqual(best_kinds(even_kinds(3, ["a", "b"], 7), []), (21, (0, 1, 1), ("a", "a", "a")))
        self.assertEqual(best_kinds(even_kinds(3, ["a", "b"], 7), [("a", 0)]), (21, (0, 1, 1), ("b", "b", "b")))
        # The hanging goes ahead of the kinds: all of a come with (0, 1, 2) alone, within the limit.
        self.assertEqual(best_kinds(even_kinds(3, ["a", "b"], 7), [("a", 1)]), (21, (0, 1, 1), ("a", "a", "b")))
        self.assertEqual(best_kinds(even_kinds(3, ["a"], 7), [("a", 1)]), (21, (0, 1, 2), ("a", "a", "a")))

    def test_no_crossings(self):
        t = even_kinds(3, ["a"], 0)
        for way, worth in [((0, 3), 9), ((1, 0), 9), ((2, 2), 9)]:
            t = put_at(t, way, (("a", worth),))
        # (3, 0, 2), of 27, has ties that cross.
        self.assertEqual(best_kinds(t, []), (18, (2, 0, 2), ("a", "a", "a")))

    def test_words_on_both_sides_count_together(self):
        t = even_kinds(3, ["a", "b"], 0)
        for way in [(0, 2), (2, 2), (1, 0)]:
            t = put_at(t, way, (("a", 9), ("b", 2)))
        self.assertEqual(best_kinds(t, [("a", 2)]), (27, (2, 0, 2), ("a", "a", "a")))
        self.assertEqual(best_kinds(t, [("a", 1)]), (20, (2, 0, 2), ("a", "a", "b")))
        self.assertEqual(best_kinds(t, [("a", 1), ("b", 0)]), best_due(t, [("a", 1), ("b", 0)], ["a", "b"]))

    def test_all_gone_through(self):
        limits = [
            [], [("a", 0)], [("a", 1)], [("a", 2)], [("b", 0), ("a", 1)], [("cc", 1), ("b", 1)], [("a", 3), ("b", 1)],
            [("zz", 0)], [("zz", 0), ("a", 1)], [("a", 1), ("b", 1), ("cc", 0)],
        ]
        nones = 0
        for n in range(1, 4):
            for seed in range(20):
                t = some_kinds(seed, n, NAMES[:3], [0, 1, 4, 10 ** 9][seed % 4])
                for some in limits:
                    due = best_due(t, some, NAMES[:3])
                    self.assertEqual(best_kinds(t, some), due, (t, some))
                    nones += due is None
        self.assertGreater(nones, 0)

    def test_four_and_five_words(self):
        for n, names in [(4, NAMES[:3]), (5, NAMES[:2])]:
            for seed in range(6):
                t = some_kinds(seed, n, names, seed % 3)
                for some in [[("a", 1)], [("a", 2), ("b", 1)], [("b", 0), ("a", 2)]]:
                    self.assertEqual(best_kinds(t, some), best_due(t, some, names), (t, some))

    def test_ten_words(self):
        # Where one row's worths outweigh all crossings, the best of all hangings is plain, and so the best here.
        w = tuple(
            tuple(None if on == word else -abs(word - on) for on in range(11)) for word in range(1, 11)
        )
        t = tuple(tuple(() if worth is None else (("a", worth), ("b", worth)) for worth in row) for row in w)
        worth, h = best_any(w)
        self.assertEqual(crossings_gone_through(h), [])
        self.assertEqual(best_kinds(t, []), (worth, h, ("a",) * 10))
        self.assertEqual(best_kinds(t, [("b", 0), ("a", 3)])[0], worth)
        for seed in range(4):
            t = some_kinds(seed, 10, NAMES, 10 ** 9)
            for some in [[], [("a", 3), ("b", 3)], [("a", 0), ("d", 1)]]:
                self.told_is_right(t, some)

    def told_is_right(self, t, limits):
        worth, h, kinds = best_kinds(t, limits)
        self.assertEqual(kinds_worth(t, h, kinds), worth)
        self.assertTrue(within_by_words(h, kinds, limits))
        self.assertEqual(crossings_gone_through(h), [])
        # No other on or kind of one word alone is of more worth.
        near = hangings_near(h)
        for at in range(len(t)):
            for on, kind in itertools.product(range(len(t) + 1), NAMES):
                other, names = put_at(h, (at,), on), put_at(kinds, (at,), kind)
                if other in near and within_by_words(other, names, limits):
                    much = kinds_worth(t, other, names)
                    self.assertTrue(much is None or much <= worth)

    def test_nothing_handed_in_is_changed(self):
        limits = [("a", 1), ("b", 2)]
        best_kinds(some_kinds(1, 4, NAMES, 3), limits)
        is_within((0,), ("a",), limits)
        self.assertEqual(limits, [("a", 1), ("b", 2)])


def hangings_near(h):
    """The plain hangings in which one word hangs otherwise than in h."""
    found = []
    for at, on in itertools.product(range(len(h)), range(len(h) + 1)):
        other = put_at(h, (at,), on)
        hangs = other.count(0) == 1 and all(comes_to_none(other, word) for word in range(1, len(h) + 1))
        if hangs and not crossings_gone_through(other):
            found.append(other)
    return found
