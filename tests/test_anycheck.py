"""Point 9: what a paper is, and what it shows."""

import unittest

from hungwords.anybest import paper_any
from hungwords.anycheck import shows_best_any
from tests.helper import WRONG_NUMBERS, WRONG_THINGS, at_way, in_order, other_kind, put_at, some_table, ways_down

# Words 1 and 2 are of most worth on one another; so are 3 and 4.
W = (
    (1, None, 9, 2, 0),
    (0, 9, None, 0, 1),
    (0, 3, 1, None, 9),
    (None, 2, 0, 9, None),
)
H = (0, 1, 1, 3)
PAPER = (1, [9, 9, 9, 9], [((1, 2), 7), ((3, 4), 6), ((1, 2, 3, 4), 2)])


def holds(w, h, paper):
    """By the words of the document, of a paper that is one."""
    hook, words, sets = paper
    for word in range(1, len(w) + 1):
        for on in range(len(w) + 1):
            bound = words[word - 1] + (hook if on == 0 else 0)
            for some, price in sets:
                if word in some and on not in some:
                    bound -= price
            if w[word - 1][on] is not None and w[word - 1][on] > bound:
                return False
    worth = sum(w[at][on] for at, on in enumerate(h))
    return hook + sum(words) - sum(price for some, price in sets) == worth


class ShowsTest(unittest.TestCase):
    def test_the_paper_shows_it(self):
        self.assertEqual(in_order(W)[0], (22, H))
        self.assertIs(shows_best_any(W, H, PAPER), True)

    def test_sets_stand_in_any_order_and_may_cost_nothing(self):
        hook, words, sets = PAPER
        self.assertIs(shows_best_any(W, H, (hook, words, sets[::-1])), True)
        self.assertIs(shows_best_any(W, H, (hook, words, sets + [((1, 4), 0)])), True)
        self.assertIs(shows_best_any(W, H, (hook, words, [((2, 3), 0)] + sets)), True)

    def test_sets_may_overlap(self):
        w = ((0, None, 0, 0), (0, 0, None, 0), (0, 0, 0, None))
        paper = (0, [1, 2, 1], [((1, 2), 1), ((2, 3), 1)])
        self.assertIs(holds(w, (0, 1, 2), paper), False)
        self.assertIs(shows_best_any(w, (0, 1, 2), paper), False)
        paper = (0, [1, 2, 1], [((1, 2), 1), ((2, 3), 1), ((1, 2, 3), 0)])
        w = ((0, None, 1, 0), (0, 1, None, 1), (0, 0, 1, None))
        self.assertIs(shows_best_any(w, (0, 1, 2), paper), True)

    def test_one_word(self):
        self.assertIs(shows_best_any(((5, None),), (0,), (0, [5], [])), True)
        self.assertIs(shows_best_any(((5, None),), (0,), (9, [-4], [])), True)
        self.assertIs(shows_best_any(((5, None),), (0,), (-9, [14], [])), True)
        self.assertIs(shows_best_any(((5, None),), (0,), (0, [6], [])), False)
        self.assertIs(shows_best_any(((5, None),), (0,), (0, [4], [])), False)
        self.assertIs(shows_best_any(((5, None),), (0,), (0, [5], [((1, 1), 0)])), False)

    def test_of_no_hanging_but_the_best(self):
        for worth, h in in_order(W):
            self.assertIs(shows_best_any(W, h, PAPER), worth == 22)

    def test_each_number_otherwise(self):
        for way in ways_down(PAPER):
            number = at_way(PAPER, way)
            if isinstance(number, int) and not (len(way) == 4 and way[2] == 0):
                for more in (-8, -1, 1, 8):
                    self.assertIs(shows_best_any(W, H, put_at(PAPER, way, number + more)), False, (way, more))

    def test_two_numbers_otherwise_so_that_all_together_stay(self):
        ways = [way for way in ways_down(PAPER) if way == (0,) or way[:1] == (1,) and len(way) == 2]
        seen = set()
        for one in ways:
            for other in ways:
                if one != other:
                    paper = put_at(PAPER, one, at_way(PAPER, one) + 1)
                    paper = put_at(paper, other, at_way(PAPER, other) - 1)
                    seen.add(holds(W, H, paper))
                    self.assertIs(shows_best_any(W, H, paper), holds(W, H, paper))
        self.assertIn(False, seen)

    def test_by_the_words_of_the_document(self):
        seen = []
        for seed in range(120):
            w = some_table(seed, 1 + seed % 5, -4, 4, seed % 40)
            pairs = in_order(w)
            if pairs:
                paper = paper_any(w)
                for more in (0, 1, -1):
                    for at in range(len(w)):
                        otherwise = (paper[0] - more, put_at(paper[1], (at,), paper[1][at] + more), paper[2])
                        seen.append(holds(w, pairs[0][1], otherwise))
                        self.assertIs(shows_best_any(w, pairs[0][1], otherwise), seen[-1])
        self.assertIn(True, seen)
        self.assertIn(False, seen)

    def test_none_entries_are_passed_over(self):
        w = ((None, None, 4), (1, None, None))
        self.assertIs(shows_best_any(w, (2, 0), (0, [4, 1], [])), True)
        self.assertIs(shows_best_any(w, (2, 0), (-10 ** 6, [4, 10 ** 6 + 1], [])), True)
        self.assertIs(shows_best_any(w, (2, 0), (2, [3, 0], [])), False)

    def test_numbers_of_any_size(self):
        hook, words, sets = PAPER
        far = 10 ** 300
        self.assertIs(shows_best_any(W, H, (hook, words, sets + [((1, 3), far)])), False)
        self.assertIs(shows_best_any(((5, None),), (0,), (far, [5 - far], [])), True)

    def test_nothing_is_changed(self):
        paper = (1, [9, 9, 9, 9], [((1, 2), 7), ((3, 4), 6), ((1, 2, 3, 4), 2)])
        shows_best_any(W, H, paper)
        self.assertEqual(paper, PAPER)
        self.assertIs(shows_best_any(W, H, paper), True)


class WrongPapersTest(unittest.TestCase):
    def refused(self, thing):
        self.assertIs(shows_best_any(W, H, thing), False, thing)

    def test_wrong_things_at_each_place(self):
        for way in ways_down(PAPER):
            here = at_way(PAPER, way)
            for wrong in WRONG_THINGS + WRONG_NUMBERS:
                if wrong != here or isinstance(wrong, bool):
                    self.refused(put_at(PAPER, way, wrong))

    def test_true_and_false_for_one_and_nought(self):
        self.assertIs(shows_best_any(W, H, (1, [9, 9, 9, 9], PAPER[2])), True)
        self.refused((True, [9, 9, 9, 9], PAPER[2]))
        w = ((0, None, 1), (1, 0, None))
        self.assertIs(shows_best_any(w, (2, 0), (0, [1, 1], [((1, 2), 0)])), True)
        for thing in [
            (False, [1, 1], [((1, 2), 0)]), (0, [True, 1], [((1, 2), 0)]), (0, [1, True], [((1, 2), 0)]),
            (0, [1, 1], [((True, 2), 0)]), (0, [1, 1], [((1, 2), False)]),
        ]:
            self.assertIs(shows_best_any(w, (2, 0), thing), False, thing)

    def test_lists_for_tuples_and_tuples_for_lists(self):
        for way in ways_down(PAPER):
            if isinstance(at_way(PAPER, way), (list, tuple)):
                self.refused(put_at(PAPER, way, other_kind(at_way(PAPER, way))))

    def test_one_more_or_one_fewer(self):
        self.refused(PAPER + (0,))
        self.refused(PAPER[:2])
        for way in ways_down(PAPER):
            here = at_way(PAPER, way)
            if isinstance(here, (list, tuple)) and way != (2,):
                self.refused(put_at(PAPER, way, here[:-1]))
                self.refused(put_at(PAPER, way, here + type(here)([0])))
        for more in [0, None, (), ((1, 3),), ((1, 3), 0, 0), [(1, 3), 0], ((1, 3), None)]:
            self.refused((PAPER[0], PAPER[1], PAPER[2] + [more]))

    def test_sets_that_are_none(self):
        self.assertIs(shows_best_any(W, H, (1, PAPER[1], PAPER[2] + [((1, 3), 0)])), True)
        for some in [
            (), (1,), (2, 1), (1, 1), (1, 1, 3), (0, 1), (-1, 1), (1, 5), (3, 10 ** 30), (1, 2), (1, 2, 3, 4),
            (4, 3), (1, 3, 2), (1, 2, 3, 4, 5), (1, None), (None, 1), ("1", 2), (1, "2"), (1, (2,)), (1, [2]),
            [1, 3], "13", 1, None, (1, False), (True, 3), ((1, 3),),
        ]:
            self.refused((1, PAPER[1], PAPER[2] + [(some, 0)]))
            self.refused((1, PAPER[1], [(some, 0)] + PAPER[2]))

    def test_a_price_below_nought(self):
        w = ((0, None, 0), (0, 0, None))
        self.assertIs(holds(w, (0, 1), (0, [-1, 0], [((1, 2), -1)])), False)
        self.assertIs(holds(w, (0, 1), (-1, [0, 0], [((1, 2), -1)])), True)
        self.assertIs(shows_best_any(w, (0, 1), (-1, [0, 0], [((1, 2), -1)])), False)
