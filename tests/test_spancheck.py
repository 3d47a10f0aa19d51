"""Point 7, its last paragraphs: what shows that no plain hanging is of more worth."""

import itertools
import unittest

from hungwords.spancheck import shows_best_plain
from hungwords.spans import best_plain, spans
from hungwords.worths import worth_of
from tests.helper import (
    PLAIN, WRONG_NUMBERS, WRONG_THINGS, at_way, even_table, other_kind, plain_in_order, put_at, some_plain,
    some_table, ways_down, worth_by_words,
)

W = ((3, None, 1, 2), (0, 4, None, 8), (7, 5, 6, None))
H = (3, 3, 0)
SPANS = [(1, 2, 4, 4, 1, 1), (1, 3, 13, 13, 10, 10), (2, 3, 6, 6, 8, 8)]


def at_least(worth, parts):
    """Whether a worth is no less than the parts together, None being less than all numbers, no less than None."""
    if None in parts:
        return True
    return worth is not None and worth >= sum(parts)


def holds(w, h, thing):
    """Whether right spans show it, clause by clause, by the words of the document."""
    n = len(w)
    told = {(i, j): rest for i, j, *rest in thing}
    for i in range(1, n + 1):
        told[(i, i)] = (0, None, 0, None)
    right, right_tied, left, left_tied = [{pair: told[pair][at] for pair in told} for at in range(4)]
    clauses = []
    for i, j in itertools.combinations(range(1, n + 1), 2):
        for k in range(i, j):
            clauses.append(at_least(right_tied[i, j], [w[j - 1][i], right[i, k], left[k + 1, j]]))
            clauses.append(at_least(left_tied[i, j], [w[i - 1][j], right[i, k], left[k + 1, j]]))
            clauses.append(at_least(left[i, j], [left[i, k], left_tied[k, j]]))
        for k in range(i + 1, j + 1):
            clauses.append(at_least(right[i, j], [right_tied[i, k], right[k, j]]))
    for t in range(1, n + 1):
        clauses.append(at_least(worth_by_words(w, h), [w[t - 1][0], left[1, t], right[t, n]]))
    return all(clauses)


def some_tables():
    for seed in range(60):
        yield some_table(seed, 1 + seed % 5, -4, 4, (seed * 7) % 50)
    for seed in range(4):
        yield some_table(seed, 12, -10 ** 9, 10 ** 9, 15 * seed)


class ShowsTest(unittest.TestCase):
    def test_ordinary(self):
        # The worths of (3, 3, 0) are 2, 8 and 7.
        self.assertIs(shows_best_plain(W, H, SPANS), True)
        self.assertIs(shows_best_plain(W, (0, 3, 1), SPANS), False)

    def test_spans_show_the_best_one(self):
        self.assertEqual(spans(W), SPANS)
        for w in some_tables():
            best = best_plain(w)
            if best is not None:
                self.assertIs(shows_best_plain(w, best[1], spans(w)), True)

    def test_spans_show_just_those_of_the_greatest_worth(self):
        for w in some_tables():
            if len(w) < 6:
                pairs = plain_in_order(w)
                for worth, h in pairs:
                    self.assertIs(shows_best_plain(w, h, spans(w)), worth == pairs[0][0])

    def test_one_word(self):
        for worth in (-5, 0, 10 ** 9):
            self.assertIs(shows_best_plain(((worth, None),), (0,), []), True)
        for thing in [(), None, [()], [(1, 1, 0, 0, 0, 0)], [[]], "", 0, False, True, [None], [(1, 2, 0, 0, 0, 0)]]:
            self.assertIs(shows_best_plain(((5, None),), (0,), thing), False)

    def test_two_words(self):
        w = ((1, None, 8), (5, 2, None))
        for thing, due in [
            ([(1, 2, 2, 2, 8, 8)], True), ([(1, 2, 1, 2, 8, 8)], False), ([(1, 2, 2, 1, 8, 8)], False),
            ([(1, 2, 2, 2, 7, 8)], False), ([(1, 2, 2, 2, 8, 7)], False), ([(1, 2, 2, 2, 9, 8)], False),
            ([(1, 2, 12, 2, 8, 8)], True), ([(1, 2, 12, 12, 8, 8)], True), ([(1, 2, 13, 2, 8, 8)], False),
            ([(1, 2, None, 2, 8, 8)], False), ([(1, 2, 2, None, 8, 8)], False), ([(1, 2, None, None, 8, 8)], False),
        ]:
            self.assertIs(shows_best_plain(w, (2, 0), thing), due, thing)
            self.assertIs(holds(w, (2, 0), thing), due)

    def test_none_where_nothing_is_due(self):
        w = ((1, None, 8), (5, None, None))
        for thing, due in [
            ([(1, 2, None, None, 8, 8)], True), ([(1, 2, 0, None, 8, 8)], True), ([(1, 2, None, 0, 8, 8)], False),
            ([(1, 2, -3, -3, 8, 8)], True), ([(1, 2, 12, -9, 8, 8)], True), ([(1, 2, 13, None, 8, 8)], False),
        ]:
            self.assertIs(shows_best_plain(w, (2, 0), thing), due, thing)
            self.assertIs(holds(w, (2, 0), thing), due)
        # Where the top may not be, what stands beside it doesn't count.
        w = ((None, None, 8), (5, 2, None))
        self.assertIs(shows_best_plain(w, (2, 0), [(1, 2, 10 ** 30, 2, 8, 8)]), True)

    def test_one_number_otherwise(self):
        seen = []
        for w in some_tables():
            if 1 < len(w) < 6 and plain_in_order(w):
                h = plain_in_order(w)[0][1]
                thing = spans(w)
                for way in ways_down(thing):
                    if len(way) == 2 and way[1] > 1:
                        here = at_way(thing, way)
                        others = [0, -100] if here is None else [None, here - 1, here + 1, here + 2]
                        for other in others:
                            seen.append(holds(w, h, put_at(thing, way, other)))
                            self.assertIs(shows_best_plain(w, h, put_at(thing, way, other)), seen[-1])
        self.assertIn(True, seen)
        self.assertIn(False, seen)

    def test_two_numbers_otherwise(self):
        w = some_table(5, 4, -4, 4, 10)
        h, thing = best_plain(w)[1], spans(w)
        ways = [way for way in ways_down(thing) if len(way) == 2 and way[1] > 1]
        seen = []
        for one, other in itertools.permutations(ways, 2):
            if None not in (at_way(thing, one), at_way(thing, other)):
                changed = put_at(put_at(thing, one, at_way(thing, one) + 1), other, at_way(thing, other) + 1)
                seen.append(holds(w, h, changed))
                self.assertIs(shows_best_plain(w, h, changed), seen[-1])
        self.assertIn(False, seen)

    def test_what_is_shown_is_so(self):
        # Any spans that show a hanging show that none is of more worth, whatever they were made of.
        shown = 0
        for seed in range(40):
            w = some_table(seed, 3, -2, 2, 10)
            for word, on in itertools.product(range(3), range(4)):
                thing = spans(put_at(w, (word, on), 2))
                for h in PLAIN[3]:
                    if worth_by_words(w, h) is not None and shows_best_plain(w, h, thing):
                        self.assertEqual(worth_by_words(w, h), plain_in_order(w)[0][0])
                        shown += 1
        self.assertGreater(shown, 40)

    def test_numbers_of_any_size(self):
        far = 10 ** 300
        w = even_table(4, far)
        self.assertIs(shows_best_plain(w, (0, 1, 1, 1), spans(w)), True)
        self.assertIs(shows_best_plain(W, H, put_at(spans(W), (0, 2), far)), False)
        self.assertIs(shows_best_plain(W, H, put_at(spans(W), (0, 2), -far)), False)

    def test_twelve_words(self):
        for seed in range(6):
            w = some_table(seed, 12, -50, 50, 0)
            worth, best = best_plain(w)
            for other in range(10):
                h = some_plain(other, 12)
                self.assertIs(shows_best_plain(w, h, spans(w)), worth_of(w, h) == worth)
            for way in [(0, 2), (10, 2), (10, 4), (65, 5), (30, 3)]:
                here = at_way(spans(w), way)
                self.assertIs(shows_best_plain(w, best, put_at(spans(w), way, here - 1)), False)

    def test_nothing_is_changed(self):
        thing = spans(W)
        self.assertIs(shows_best_plain(W, H, thing), True)
        self.assertEqual(thing, spans(W))
        self.assertIs(shows_best_plain(W, H, thing), True)


class WrongThingsTest(unittest.TestCase):
    def setUp(self):
        self.thing = spans(W)

    def refused(self, thing):
        self.assertIs(shows_best_plain(W, H, thing), False, thing)

    def test_things_of_other_kinds(self):
        for wrong in WRONG_THINGS + WRONG_NUMBERS:
            self.refused(wrong)

    def test_wrong_things_at_each_place(self):
        for way in ways_down(self.thing):
            here = at_way(self.thing, way)
            for wrong in WRONG_THINGS + WRONG_NUMBERS:
                is_worth = len(way) == 2 and way[1] > 1 and (wrong is None or type(wrong) is int)
                if not is_worth and (wrong != here or isinstance(wrong, bool)):
                    self.refused(put_at(self.thing, way, wrong))

    def test_none_and_numbers_for_a_word(self):
        for row in range(3):
            for at in (0, 1):
                for wrong in (None, 0, -1, 4, 10 ** 30):
                    self.refused(put_at(self.thing, (row, at), wrong))

    def test_true_and_false_for_one_and_nought(self):
        w = even_table(2, 0)
        self.assertIs(shows_best_plain(w, (0, 1), [(1, 2, 0, 0, 0, 0)]), True)
        for at in range(2, 6):
            self.assertIs(shows_best_plain(w, (0, 1), put_at([(1, 2, 0, 0, 0, 0)], (0, at), False)), False)
        self.assertIs(shows_best_plain(w, (0, 1), [(True, 2, 0, 0, 0, 0)]), False)
        w = even_table(2, 1)
        self.assertIs(shows_best_plain(w, (0, 1), [(1, 2, 1, 1, 1, 1)]), True)
        for at in (0, 2, 3, 4, 5):
            self.assertIs(shows_best_plain(w, (0, 1), put_at([(1, 2, 1, 1, 1, 1)], (0, at), True)), False)

    def test_lists_for_tuples_and_tuples_for_lists(self):
        for way in ways_down(self.thing):
            if isinstance(at_way(self.thing, way), (list, tuple)):
                self.refused(put_at(self.thing, way, other_kind(at_way(self.thing, way))))

    def test_one_more_or_one_fewer(self):
        for at in range(3):
            self.refused(self.thing[:at] + self.thing[at + 1:])
            self.refused(self.thing[:at] + [self.thing[at]] + self.thing[at:])
            self.refused(put_at(self.thing, (at,), self.thing[at][:-1]))
            self.refused(put_at(self.thing, (at,), self.thing[at] + (0,)))
            self.refused(put_at(self.thing, (at,), self.thing[at] + (None,)))
        for more in [(3, 4, 0, 0, 0, 0), (1, 1, 0, 0, 0, 0), (3, 3, 0, 0, 0, 0), None, (), []]:
            self.refused(self.thing + [more])
        self.refused([])

    def test_another_order(self):
        for order in itertools.permutations(range(3)):
            if order != (0, 1, 2):
                self.refused([self.thing[at] for at in order])

    def test_pairs_the_other_way_round(self):
        for at in range(3):
            low, high, *rest = self.thing[at]
            self.refused(put_at(self.thing, (at,), (high, low, *rest)))

    def test_the_spans_of_fewer_or_more_words(self):
        for n in (1, 2, 4, 5):
            self.refused(spans(even_table(n, 0)))

    def test_things_ten_deep(self):
        deep, wide = [], ()
        for _ in range(9):
            deep, wide = [deep, 1], (wide, None)
        for way in ways_down(self.thing):
            self.refused(put_at(self.thing, way, deep[0] if way else deep))
            self.refused(put_at(self.thing, way, wide[0] if way else wide))
