"""Point 18: two readers held together."""

import itertools
import random
import unittest

from hungwords.errors import Apart, HangError, NoStep
from hungwords.pairs import Pair
from hungwords.slips import allowed
from hungwords.spans import best_plain
from hungwords.steps import steps_of
from hungwords.worths import worth_of
from tests.helper import (
    OTHER_STEPS, STEPS, Walk, come_to_from, crossings_gone_through, even_table, ranked_by_words, some_plain,
    some_table, stands_gone_through,
)

FIRST = ((), 1, (None, None, None))


def told(pair):
    """All that a pair tells."""
    w = some_table(3, len(pair.stands()[0][2]), -9, 9, 10)
    return pair.stands(), pair.alike(), pair.unlike(), pair.allowed_both(), pair.can_meet(), pair.meet(w)


def led_pair(n, gap, steps):
    """A pair led by a list of pairs (which, word)."""
    pair = Pair(n, gap)
    for which, word in steps:
        pair.step(which, word)
    return pair


def both_led(n, one, other):
    """A pair with a wide gap, the one led by one list, the other by another one."""
    return led_pair(n, n, [(0, word) for word in one] + [(1, word) for word in other])


def taken_back(pair):
    """All steps, the last one first, each taken back."""
    steps = []
    while pair.stands() != (((), 1, (None,) * len(pair.stands()[0][2])),) * 2:
        steps.append(pair.back())
    return steps


class StepTest(unittest.TestCase):
    def refused(self, pair, which, word, error):
        before = told(pair)
        with self.assertRaises(HangError) as caught:
            pair.step(which, word)
        self.assertIs(type(caught.exception), error)
        self.assertEqual(told(pair), before)
        return caught.exception

    def test_at_its_beginning(self):
        for n in (1, 3, 12):
            pair = Pair(n, 1)
            self.assertEqual(pair.stands(), (((), 1, (None,) * n),) * 2)
            self.assertEqual((pair.alike(), pair.unlike()), ([], []))
            self.assertIs(pair.can_meet(), True)
            self.assertIs(pair.back(), None)

    def test_each_goes_by_itself(self):
        pair = Pair(3, 2)
        self.assertIs(pair.step(0, "read"), None)
        self.assertEqual(pair.stands(), (((1,), 2, (None, None, None)), FIRST))
        pair.step(0, "next")
        pair.step(1, "read")
        self.assertEqual(pair.stands(), (((), 2, (2, None, None)), ((1,), 2, (None, None, None))))
        pair.step(1, "read")
        pair.step(1, "under")
        self.assertEqual(pair.stands(), (((), 2, (2, None, None)), ((1,), 3, (None, 1, None))))

    def test_a_gap_of_one(self):
        for one, other in ((0, 1), (1, 0)):
            pair = Pair(3, 1)
            pair.step(one, "read")
            self.refused(pair, one, "read", Apart)
            pair.step(one, "next")
            self.refused(pair, one, "read", Apart)
            pair.step(other, "read")
            pair.step(other, "read")
            self.refused(pair, other, "read", Apart)
            pair.step(one, "read")
            pair.step(one, "read")
            pair.step(other, "read")
            self.assertEqual([stand[1] for stand in pair.stands()], [4, 4])

    def test_wider_gaps(self):
        for gap in range(1, 8):
            pair = Pair(6, gap)
            for _ in range(min(gap, 6)):
                pair.step(1, "read")
            if gap < 6:
                self.refused(pair, 1, "read", Apart)
            else:
                self.assertEqual(self.refused(pair, 1, "read", NoStep).place, 6)
            pair.step(0, "read")
            if gap < 6:
                pair.step(1, "read")

    def test_steps_that_can_not_be_done(self):
        pair = led_pair(3, 3, [(0, "read"), (1, "read"), (1, "read"), (0, "next")])
        for which, word, place in [(0, "under", 2), (0, "next", 2), (0, "back", 2), (1, "", 2)]:
            self.assertEqual(self.refused(pair, which, word, NoStep).place, place)
        pair.step(1, "under")
        self.assertEqual(self.refused(pair, 1, "under", NoStep).place, 3)
        self.assertEqual(self.refused(pair, 0, "under", NoStep).place, 2)
        self.assertEqual(self.refused(Pair(3, 1), 1, "next", NoStep).place, 0)

    def test_any_other_text(self):
        pair = led_pair(3, 1, [(0, "read"), (0, "next"), (1, "read")])
        for word in OTHER_STEPS:
            self.assertEqual(self.refused(pair, 0, word, NoStep).place, 2)
            self.assertEqual(self.refused(pair, 1, word, NoStep).place, 1)

    def test_what_can_not_be_done_ahead_of_what_leads_apart(self):
        # All words are read by 0 and the gap is used up: reading can't be done, and would lead too far.
        pair = led_pair(2, 1, [(0, "read"), (1, "read"), (0, "read")])
        self.assertEqual(self.refused(pair, 0, "read", NoStep).place, 2)
        pair = led_pair(1, 1, [(1, "read")])
        self.assertEqual(self.refused(pair, 1, "read", NoStep).place, 1)

    def test_a_refusal_is_no_step_to_be_taken_back(self):
        pair = Pair(3, 1)
        pair.step(0, "read")
        self.refused(pair, 0, "read", Apart)
        self.refused(pair, 0, "under", NoStep)
        self.refused(pair, 1, "next", NoStep)
        self.assertEqual(pair.back(), (0, "read"))
        self.assertIs(pair.back(), None)

    def test_all_pairs_of_few_words(self):
        for n, gap in itertools.product((1, 2, 3), (1, 2, 3, 4)):
            for steps in all_pair_lists(n, gap).values():
                pair = led_pair(n, gap, steps)
                walks = walks_of(n, steps)
                self.assertEqual(pair.stands(), tuple(walk.stand() for walk in walks))
                for which, word in itertools.product((0, 1), STEPS):
                    if word not in walks[which].may():
                        place = sum(1 for done, _ in steps if done == which)
                        self.assertEqual(self.refused(pair, which, word, NoStep).place, place)
                    elif word == "read" and walks[which].at + 1 - walks[1 - which].at > gap:
                        self.refused(pair, which, word, Apart)
                    else:
                        pair.step(which, word)
                        self.assertEqual(pair.back(), (which, word))


def walks_of(n, steps):
    """Two readers by the words of the document, each led by its own steps."""
    return [Walk(n, [word for done, word in steps if done == which]) for which in (0, 1)]


def pair_steps(n, gap, steps):
    """All pairs (which, word) that can be done behind these, and leave them near enough."""
    walks = walks_of(n, steps)
    return [
        (which, word) for which in (0, 1) for word in walks[which].may()
        if word != "read" or walks[which].at + 1 - walks[1 - which].at <= gap
    ]


def all_pair_lists(n, gap):
    """All pairs of stands that two readers so held can have, each with a list of steps, fewer steps ahead."""
    found, waiting = {}, [[]]
    for steps in waiting:
        stands = tuple(walk.stand() for walk in walks_of(n, steps))
        if stands not in found:
            found[stands] = steps
            waiting += [steps + [step] for step in pair_steps(n, gap, steps)]
    return found


class BackTest(unittest.TestCase):
    def test_in_their_order(self):
        steps = [(0, "read"), (1, "read"), (1, "read"), (0, "next"), (0, "read"), (1, "under"), (0, "read")]
        pair = led_pair(4, 2, steps)
        for at in reversed(range(len(steps))):
            self.assertEqual(pair.back(), steps[at])
            self.assertEqual(told(pair), told(led_pair(4, 2, steps[:at])))
        self.assertIs(pair.back(), None)
        self.assertIs(pair.back(), None)

    def test_by_chance(self):
        for seed in range(10):
            chance = random.Random(seed)
            n, gap = chance.randint(1, 12), chance.randint(1, 4)
            pair, steps = Pair(n, gap), []
            for _ in range(120):
                which, word = chance.randrange(2), chance.choice(STEPS + ["back"])
                if word == "back":
                    self.assertEqual(pair.back(), steps.pop() if steps else None)
                elif (which, word) in pair_steps(n, gap, steps):
                    pair.step(which, word)
                    steps.append((which, word))
                else:
                    self.assertRaises((NoStep, Apart), pair.step, which, word)
                self.assertEqual(pair.stands(), tuple(walk.stand() for walk in walks_of(n, steps)))
            self.assertEqual(taken_back(pair), steps[::-1])


class HungTest(unittest.TestCase):
    def test_alike_and_unlike(self):
        pair = both_led(3, ["read", "next", "read", "read"], ["read", "read"])
        self.assertEqual((pair.alike(), pair.unlike()), ([], []))
        pair.step(1, "next")
        self.assertEqual((pair.alike(), pair.unlike()), ([], []))
        pair.step(0, "under")
        self.assertEqual((pair.alike(), pair.unlike()), ([], []))
        pair.step(1, "next")
        self.assertEqual((pair.alike(), pair.unlike()), ([], [1]))
        pair.back()
        pair.step(1, "read")
        pair.step(1, "under")
        self.assertEqual((pair.alike(), pair.unlike()), ([], [3]))

    def test_the_top_of_both_is_not_hung(self):
        steps = steps_of((2, 0, 2))
        pair = both_led(3, steps, steps)
        self.assertEqual((pair.alike(), pair.unlike()), ([1, 3], []))
        self.assertEqual((both_led(1, ["read"], ["read"]).alike()), [])

    def test_all_pairs_of_stands(self):
        for n in (1, 2, 3):
            for (one, steps), (other, others) in itertools.product(stands_gone_through(n).items(), repeat=2):
                pair = both_led(n, steps, others)
                words = [word for word in range(1, n + 1) if one[2][word - 1] and other[2][word - 1]]
                same = [word for word in words if one[2][word - 1] == other[2][word - 1]]
                self.assertEqual(pair.alike(), same)
                self.assertEqual(pair.unlike(), [word for word in words if word not in same])


class MeetTest(unittest.TestCase):
    def test_ordinary(self):
        pair = Pair(3, 3)
        self.assertEqual(pair.allowed_both(), [[0, 2, 3], [0, 1, 3], [0, 1, 2]])
        pair.step(0, "read")
        pair.step(0, "next")
        self.assertEqual(pair.allowed_both(), [[2], [0, 3], [0, 2]])
        self.assertEqual(pair.meet(even_table(3, 1)), (3, (2, 0, 2)))
        pair.step(1, "read")
        self.assertIs(pair.can_meet(), True)
        pair.step(1, "read")
        # Word 1 can't hang on word 2 any more.
        self.assertEqual(pair.allowed_both(), [[], [3], [0, 2]])
        self.assertIs(pair.can_meet(), False)
        self.assertIs(pair.meet(even_table(3, 1)), None)

    def test_one_word(self):
        pair = Pair(1, 1)
        for which in (0, 1):
            pair.step(which, "read")
            self.assertEqual(pair.allowed_both(), [[0]])
            self.assertIs(pair.can_meet(), True)
            self.assertEqual(pair.meet(((-5, None),)), (-5, (0,)))
            self.assertIs(pair.meet(((None, None),)), None)

    def test_both_done(self):
        one, other = steps_of((2, 0, 2)), steps_of((0, 1, 1))
        self.assertIs(both_led(3, one, one).can_meet(), True)
        self.assertEqual(both_led(3, one, one).meet(even_table(3, 2)), (6, (2, 0, 2)))
        self.assertIs(both_led(3, one, other).can_meet(), False)
        self.assertIs(both_led(3, one, other).meet(even_table(3, 2)), None)

    def test_some_that_can_be_come_to_but_may_not_be(self):
        pair = both_led(2, ["read", "next"], ["read"])
        self.assertIs(pair.can_meet(), True)
        self.assertIs(pair.meet(((1, None, None), (1, 1, None))), None)
        self.assertEqual(pair.meet(((1, None, -3), (1, 1, None))), (-2, (2, 0)))

    def test_at_the_beginning_it_is_the_best_plain_one(self):
        for seed in range(10):
            w = some_table(seed, 12, -3, 3, 20)
            self.assertEqual(Pair(12, 1).meet(w), best_plain(w))

    def test_all_pairs_of_stands(self):
        for n in (1, 2, 3, 4):
            onward = come_to_from(n)
            w = some_table(n, n, -3, 3, 10)
            for (one, steps), (other, others) in itertools.product(stands_gone_through(n).items(), repeat=2):
                pair = both_led(n, steps, others)
                due = [h for h in onward[one] if h in onward[other]]
                self.assertIs(pair.can_meet(), due != [])
                self.assertEqual(pair.meet(w), (ranked_by_words(w, due) or [None])[0])
                lists = [[on for on in ons if on in more] for ons, more in zip(allowed(one), allowed(other))]
                self.assertEqual(pair.allowed_both(), lists)

    def test_the_gap_bars_none(self):
        for gap in (1, 2):
            found = all_pair_lists(3, gap)
            met = {}
            for stands, steps in reversed(found.items()):
                done = {walk.hanging() for walk in walks_of(3, steps)}
                met[stands] = done if len(done) == 1 and None not in done else set()
                for step in pair_steps(3, gap, steps):
                    met[stands] = met[stands] | met[tuple(walk.stand() for walk in walks_of(3, steps + [step]))]
                pair = led_pair(3, gap, steps)
                self.assertIs(pair.can_meet(), met[stands] != set())
                w = even_table(3, 1)
                self.assertEqual(pair.meet(w), (ranked_by_words(w, sorted(met[stands])) or [None])[0])

    def test_twelve_words(self):
        for seed in range(12):
            h = some_plain(seed, 12)
            steps = steps_of(h)
            chance = random.Random(seed)
            one, other = chance.randint(0, 23), chance.randint(0, 23)
            pair = led_pair(12, 12, [(0, word) for word in steps[:one]] + [(1, word) for word in steps[:other]])
            self.assertIs(pair.can_meet(), True)
            w = some_table(seed, 12, -50, 50, 0)
            worth, met = pair.meet(w)
            self.assertEqual(worth, worth_of(w, met))
            self.assertEqual(crossings_gone_through(met), [])
            self.assertGreaterEqual(worth, worth_of(w, h))
            self.assertTrue(all(on in pair.allowed_both()[at] for at, on in enumerate(met)))

    def test_the_lists_are_the_askers_own(self):
        pair = both_led(3, ["read", "next"], ["read", "next"])
        before = told(pair)
        lists = pair.allowed_both()
        for one, other in itertools.combinations(lists + [lists], 2):
            self.assertIsNot(one, other)
        for ons in lists:
            ons.clear()
        for ask in (pair.allowed_both, pair.alike, pair.unlike):
            ask().append(1)
            self.assertIsNot(ask(), ask())
        self.assertEqual(told(pair), before)


class TwinTest(unittest.TestCase):
    STEPS = [(0, "read"), (1, "read"), (1, "next"), (1, "read"), (0, "next")]

    def test_led_apart(self):
        pair = led_pair(3, 1, self.STEPS)
        twin = pair.twin()
        self.assertIsInstance(twin, Pair)
        self.assertIsNot(twin, pair)
        self.assertEqual(told(twin), told(pair))
        twin.step(0, "read")
        self.assertEqual(told(pair), told(led_pair(3, 1, self.STEPS)))
        pair.step(1, "next")
        self.assertEqual(told(twin), told(led_pair(3, 1, self.STEPS + [(0, "read")])))
        self.assertEqual(told(pair), told(led_pair(3, 1, self.STEPS + [(1, "next")])))
        self.assertEqual((pair.back(), twin.back()), ((1, "next"), (0, "read")))

    def test_all_steps_come_with_it(self):
        pair = led_pair(3, 1, self.STEPS)
        twin = pair.twin()
        self.assertEqual(taken_back(pair), self.STEPS[::-1])
        self.assertEqual(told(twin), told(led_pair(3, 1, self.STEPS)))
        self.assertEqual(taken_back(twin), self.STEPS[::-1])
        self.assertIs(twin.back(), None)

    def test_has_the_gap(self):
        for gap in (1, 2, 5):
            twin = Pair(9, gap).twin()
            for _ in range(gap):
                twin.step(0, "read")
            self.assertRaises(Apart, twin.step, 0, "read")
            self.assertRaises(Apart, twin.twin().step, 0, "read")

    def test_has_the_places(self):
        twin = led_pair(3, 1, self.STEPS).twin()
        with self.assertRaises(NoStep) as caught:
            twin.step(1, "under")
        self.assertEqual(caught.exception.place, 3)

    def test_two_pairs_beside_each_other(self):
        one, other = Pair(3, 1), Pair(3, 1)
        one.step(0, "read")
        self.assertEqual(told(other), told(Pair(3, 1)))
        other.step(1, "read")
        self.assertEqual(one.stands()[1], FIRST)
