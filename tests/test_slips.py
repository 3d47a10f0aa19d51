"""Point 13: what can still be come to, and what slips cost."""

import itertools
import random
import unittest

from hungwords.errors import HangError, NoStep
from hungwords.reading import Reader
from hungwords.slips import allowed, best_still, cost, slips, still, sure_steps
from hungwords.spans import best_plain
from hungwords.steps import led, steps_of
from hungwords.worths import worth_of
from tests.helper import (
    OTHER_STEPS, PLAIN, STEPS, Walk, all_step_lists, come_to_from, even_table, plain_in_order, put_at,
    ranked_by_words, some_plain, some_table, stands_gone_through,
)

W = ((1, None, 8), (5, 2, None))
ONWARD = {n: come_to_from(n) for n in range(1, 6)}
LISTS = {n: stands_gone_through(n) for n in range(1, 6)}


def allowed_by_words(stand):
    """The list of those on which each word may hang, by the words of the document."""
    pile, at, ons = stand
    later = range(at, len(ons) + 1)
    lists = []
    for word, on in enumerate(ons, start=1):
        if on is not None:
            may = {on}
        elif word in pile:
            under = pile[pile.index(word) - 1] if word != pile[0] else 0
            may = {under, *later}
        else:
            may = {0, *pile, *later} - {word}
        lists.append(sorted(may))
    return lists


def best_due(w, stand):
    """The best of all that some steps lead to from the stand."""
    pairs = ranked_by_words(w, ONWARD[len(w)][stand])
    return pairs[0] if pairs else None


def still_due(w, stand):
    best = best_due(w, stand)
    return None if best is None else best[0]


def cost_due(w, stand, word):
    after = Walk(len(w), LISTS[len(w)][stand] + [word]).stand()
    worths = [still_due(w, stand), still_due(w, after)]
    return None if None in worths else worths[0] - worths[1]


def some_tables():
    for seed in range(24):
        yield some_table(seed, 1 + seed % 4, -(seed % 4), seed % 6, (seed * 11) % 80)
    yield some_table(1, 5, -10 ** 9, 10 ** 9, 0)
    yield some_table(2, 5, -5, 5, 30)


def some_stand(seed, n):
    """A stand of a reader of n words by a seed."""
    chance = random.Random(seed)
    walk = Walk(n)
    for _ in range(chance.randint(0, 2 * n - 1)):
        walk.do(chance.choice(walk.may()))
    return walk.stand()


class AllowedTest(unittest.TestCase):
    def test_ordinary(self):
        # Word 1 is hung, words 2 and 3 are on the pile, words 4 and 5 are still to be read.
        stand = led(5, ["read", "next", "read", "read"])
        self.assertEqual(stand, ((2, 3), 4, (2, None, None, None, None)))
        self.assertEqual(allowed(stand), [[2], [0, 4, 5], [2, 4, 5], [0, 2, 3, 5], [0, 2, 3, 4]])

    def test_at_the_beginning(self):
        self.assertEqual(allowed(((), 1, (None,))), [[0]])
        self.assertEqual(allowed(((), 1, (None,) * 3)), [[0, 2, 3], [0, 1, 3], [0, 1, 2]])

    def test_done(self):
        self.assertEqual(allowed(((1,), 2, (None,))), [[0]])
        self.assertEqual(allowed(led(3, ["read", "next", "read", "read", "under"])), [[2], [0], [2]])

    def test_all_words_read(self):
        self.assertEqual(allowed(led(3, ["read"] * 3)), [[0], [1], [2]])

    def test_a_pile_without_words(self):
        self.assertEqual(allowed(led(3, ["read", "next"])), [[2], [0, 3], [0, 2]])

    def test_all_stands_of_few_words(self):
        for n in range(1, 6):
            for stand in LISTS[n]:
                self.assertEqual(allowed(stand), allowed_by_words(stand))

    def test_just_the_plain_ones_so_hung_can_be_come_to(self):
        for n in range(1, 6):
            for stand, due in ONWARD[n].items():
                lists = allowed(stand)
                self.assertEqual([h for h in PLAIN[n] if all(on in lists[at] for at, on in enumerate(h))], due)

    def test_twelve_words(self):
        for seed in range(60):
            stand = some_stand(seed, 12)
            self.assertEqual(allowed(stand), allowed_by_words(stand))

    def test_the_lists_are_the_askers_own(self):
        stand = led(4, ["read", "read"])
        due = allowed_by_words(stand)
        told = allowed(stand)
        for one, other in itertools.combinations(told + [told], 2):
            self.assertIsNot(one, other)
        for ons in told:
            ons.append(99)
        told.clear()
        self.assertEqual(allowed(stand), due)


class StillTest(unittest.TestCase):
    def test_ordinary(self):
        self.assertEqual(best_still(W, led(2, ["read"])), (13, (2, 0)))
        self.assertEqual(best_still(W, led(2, ["read", "read"])), (3, (0, 1)))
        self.assertEqual(still(W, led(2, ["read"])), 13)
        self.assertEqual(still(W, led(2, ["read", "read"])), 3)

    def test_one_word(self):
        for stand in (((), 1, (None,)), ((1,), 2, (None,))):
            self.assertEqual(best_still(((-4, None),), stand), (-4, (0,)))
            self.assertEqual(still(((-4, None),), stand), -4)
            self.assertIs(best_still(((None, None),), stand), None)
            self.assertIs(still(((None, None),), stand), None)

    def test_at_the_beginning_it_is_the_best_plain_one(self):
        for w in some_tables():
            first = ((), 1, (None,) * len(w))
            self.assertEqual(best_still(w, first), best_plain(w))
        for seed in range(6):
            w = some_table(seed, 12, -50, 50, 10)
            self.assertEqual(best_still(w, ((), 1, (None,) * 12)), best_plain(w))

    def test_done_it_is_the_one_come_to(self):
        for h in PLAIN[4]:
            w = some_table(3, 4, -9, 9, 10)
            worth = worth_of(w, h)
            stand = led(4, steps_of(h))
            self.assertEqual(best_still(w, stand), None if worth is None else (worth, h))
            self.assertEqual(still(w, stand), worth)

    def test_nothing_that_may_be_can_be_come_to(self):
        w = ((1, None, 8), (5, None, None))
        self.assertEqual(still(w, led(2, ["read"])), 13)
        for steps in (["read", "read"], ["read", "read", "under"]):
            self.assertIs(still(w, led(2, steps)), None)
            self.assertIs(best_still(w, led(2, steps)), None)

    def test_a_worth_of_nought_is_not_none(self):
        self.assertEqual(still(even_table(3, 0), led(3, ["read", "next"])), 0)

    def test_of_like_ones_the_least(self):
        self.assertEqual(best_still(even_table(3, 1), ((), 1, (None,) * 3)), (3, (0, 1, 1)))
        self.assertEqual(best_still(even_table(3, 1), led(3, ["read", "next"])), (3, (2, 0, 2)))

    def test_all_stands_of_few_words(self):
        for w in some_tables():
            for stand in ONWARD[len(w)]:
                self.assertEqual(best_still(w, stand), best_due(w, stand))
                self.assertEqual(still(w, stand), still_due(w, stand))

    def test_twelve_words(self):
        for seed in range(20):
            h = some_plain(seed, 12)
            w = tuple(tuple(worth if on != h[at] else 100 for on, worth in enumerate(row))
                      for at, row in enumerate(some_table(seed, 12, -50, 50, 10)))
            steps = steps_of(h)
            for at in range(len(steps) + 1):
                self.assertEqual(best_still(w, led(12, steps[:at])), (1200, h))


class CostTest(unittest.TestCase):
    def refused(self, w, stand, word):
        with self.assertRaises(HangError) as caught:
            cost(w, stand, word)
        self.assertIs(type(caught.exception), NoStep)
        self.assertEqual(caught.exception.place, 0)

    def test_ordinary(self):
        stand = led(2, ["read"])
        self.assertEqual(cost(W, stand, "read"), 10)
        self.assertEqual(cost(W, stand, "next"), 0)
        self.assertEqual(cost(W, led(2, []), "read"), 0)

    def test_one_word(self):
        self.assertEqual(cost(((7, None),), ((), 1, (None,)), "read"), 0)
        self.assertIs(cost(((None, None),), ((), 1, (None,)), "read"), None)
        for word in STEPS:
            self.refused(((7, None),), ((1,), 2, (None,)), word)

    def test_none_where_either_is_none(self):
        w = ((1, None, 8), (5, None, None))
        self.assertIs(cost(w, led(2, ["read"]), "read"), None)
        self.assertEqual(cost(w, led(2, ["read"]), "next"), 0)
        self.assertIs(cost(w, led(2, ["read", "read"]), "under"), None)

    def test_refused_ahead_of_none(self):
        w = even_table(3, None)
        self.refused(w, led(3, []), "next")
        self.refused(w, led(3, ["read"]), "under")
        self.refused(w, led(3, ["read", "read", "read"]), "read")
        self.refused(w, led(3, ["read", "read", "read"]), "next")
        self.assertIs(cost(w, led(3, ["read"]), "next"), None)

    def test_any_other_text(self):
        for word in OTHER_STEPS:
            self.refused(W, led(2, ["read"]), word)
            self.refused(even_table(2, None), led(2, ["read", "read"]), word)

    def test_place_is_nought_behind_any_many_steps(self):
        self.refused(even_table(4, 1), led(4, ["read", "read", "read", "under"]), "back")

    def test_all_stands_of_few_words(self):
        for w in some_tables():
            n = len(w)
            for stand, steps in LISTS[n].items():
                may = Walk(n, steps).may()
                for word in STEPS:
                    if word in may:
                        self.assertEqual(cost(w, stand, word), cost_due(w, stand, word))
                    else:
                        self.refused(w, stand, word)


class SlipsTest(unittest.TestCase):
    def refused(self, w, steps, place):
        with self.assertRaises(HangError) as caught:
            slips(w, steps)
        self.assertIs(type(caught.exception), NoStep)
        self.assertEqual(caught.exception.place, place)

    def test_ordinary(self):
        self.assertEqual(slips(W, ["read", "next", "read"]), [0, 0, 0])
        self.assertEqual(slips(W, ["read", "read", "under"]), [0, 10, 0])

    def test_no_steps_at_all(self):
        self.assertEqual(slips(W, []), [])
        self.assertEqual(slips(even_table(12, None), []), [])

    def test_one_word(self):
        self.assertEqual(slips(((7, None),), ["read"]), [0])
        self.assertEqual(slips(((None, None),), ["read"]), [None])
        self.refused(((7, None),), ["read", "read"], 1)

    def test_none_from_where_nothing_can_be_come_to(self):
        w = ((1, None, 8), (5, None, None))
        self.assertEqual(slips(w, ["read", "read", "under"]), [0, None, None])
        self.assertEqual(slips(even_table(3, None), ["read", "read"]), [None, None])

    def test_refused_as_led(self):
        for w in (even_table(3, 1), even_table(3, None)):
            for steps, place in [
                (["next"], 0), (["read", "under", "read"], 1), (["read", "read", "next", "under", "read"], 3),
                (["read", "read", "read", "under", "under", "read"], 5), (["back", "read"], 0), (["read", ""], 1),
            ]:
                self.refused(w, steps, place)

    def test_all_lists_of_few_words(self):
        for w in some_tables():
            if len(w) < 4:
                for steps in all_step_lists(len(w)):
                    stands = [Walk(len(w), steps[:at]).stand() for at in range(len(steps))]
                    due = [cost_due(w, stand, word) for stand, word in zip(stands, steps)]
                    self.assertEqual(slips(w, steps), due)

    def test_together_what_the_end_is_short_of_the_best(self):
        for n in range(1, 6):
            w = some_table(n, n, -20, 20, 0)
            for h in PLAIN[n]:
                self.assertEqual(sum(slips(w, steps_of(h))), plain_in_order(w)[0][0] - worth_of(w, h))
        for seed in range(6):
            w = some_table(seed, 12, -10 ** 9, 10 ** 9, 0)
            h = some_plain(seed, 12)
            self.assertEqual(sum(slips(w, steps_of(h))), best_plain(w)[0] - worth_of(w, h))

    def test_none_below_nought(self):
        for seed in range(6):
            w = some_table(seed, 12, -50, 50, 20)
            told = [much for much in slips(w, steps_of(some_plain(seed, 12))) if much is not None]
            self.assertGreaterEqual(min(told), 0)

    def test_what_is_handed_in_stays(self):
        steps = ["read", "read", "under"]
        told = slips(W, steps)
        told.clear()
        self.assertEqual(steps, ["read", "read", "under"])
        self.assertEqual(slips(W, steps), [0, 10, 0])


class SureStepsTest(unittest.TestCase):
    def test_ordinary(self):
        self.assertEqual(sure_steps(W, led(2, [])), ["read"])
        self.assertEqual(sure_steps(W, led(2, ["read"])), ["next"])
        self.assertEqual(sure_steps(W, led(2, ["read", "read"])), ["under"])

    def test_several_as_may_tells_them(self):
        self.assertEqual(sure_steps(even_table(3, 1), led(3, ["read", "read"])), ["read", "next", "under"])
        self.assertEqual(sure_steps(even_table(3, 1), led(3, ["read"])), ["read", "next"])

    def test_done(self):
        self.assertEqual(sure_steps(((7, None),), ((1,), 2, (None,))), [])
        self.assertEqual(sure_steps(W, led(2, ["read", "next", "read"])), [])

    def test_costs_that_are_none_are_not_sure(self):
        self.assertEqual(sure_steps(even_table(3, None), led(3, ["read", "read"])), [])
        self.assertEqual(sure_steps(((1, None, 8), (5, None, None)), led(2, ["read"])), ["next"])
        self.assertEqual(sure_steps(((None, None),), ((), 1, (None,))), [])

    def test_all_stands_of_few_words(self):
        for w in some_tables():
            for stand, steps in LISTS[len(w)].items():
                due = [word for word in Walk(len(w), steps).may() if cost_due(w, stand, word) == 0]
                self.assertEqual(sure_steps(w, stand), due)

    def test_they_lead_to_the_best(self):
        for seed in range(6):
            w = put_at(some_table(seed, 12, -50, 50, 10), (0, 0), seed)
            reader = Reader(12)
            while not reader.is_done():
                told = sure_steps(w, reader.stand())
                self.assertNotEqual(told, [])
                reader.step(told[seed % len(told)])
            self.assertEqual(worth_of(w, reader.hanging()), best_plain(w)[0])
            self.assertEqual(slips(w, reader.steps()), [0] * 23)
