"""Point 12: lists of steps that lead to a hanging."""

import collections
import unittest

from hungwords.errors import HangError, NoPlain, NoStep
from hungwords.reading import Reader
from hungwords.steps import led, steps_of, ways_to
from tests.helper import (
    OTHER_STEPS, PLAIN, STEPS, Walk, all_step_lists, crossings_gone_through, hangings_gone_through, some_hanging,
    some_plain, word_towards,
)


def done_lists(n):
    """For each hanging of n words all lists of steps that lead to it."""
    found = collections.defaultdict(list)
    for steps in all_step_lists(n):
        found[Walk(n, steps).hanging()].append(steps)
    return found


class StepsOfTest(unittest.TestCase):
    def test_ordinary(self):
        self.assertEqual(steps_of((2, 0, 2)), ["read", "next", "read", "read", "under"])
        self.assertEqual(steps_of((0, 1, 1)), ["read", "read", "under", "read", "under"])
        self.assertEqual(steps_of((0, 1, 2)), ["read", "read", "read", "under", "under"])
        self.assertEqual(steps_of((3, 3, 0)), ["read", "read", "next", "next", "read"])
        self.assertEqual(steps_of((3, 1, 0)), ["read", "read", "under", "next", "read"])

    def test_one_word(self):
        self.assertEqual(steps_of((0,)), ["read"])

    def test_under_as_soon_as_all_are_hung(self):
        # Word 2 could be hung behind word 3, too.
        self.assertEqual(steps_of((0, 1, 4, 1)), ["read", "read", "under", "read", "next", "read", "under"])

    def test_under_waits_for_words_that_hang_on_it(self):
        self.assertEqual(steps_of((0, 1, 2, 2)), ["read", "read", "read", "under", "read", "under", "under"])

    def test_those_that_cross_are_refused(self):
        for h in [(3, 0, 2), (3, 4, 0, 3), (0, 4, 1, 1)]:
            with self.assertRaises(HangError) as caught:
                steps_of(h)
            self.assertIs(type(caught.exception), NoPlain)

    def test_all_of_few_words(self):
        for n in range(1, 6):
            for h in hangings_gone_through(n):
                if crossings_gone_through(h):
                    self.assertRaises(NoPlain, steps_of, h)
                else:
                    self.led_by_words(h)

    def led_by_words(self, h):
        walk, due = Walk(len(h)), []
        while walk.hanging() is None:
            due.append(word_towards(h, walk.stand()))
            self.assertIn(due[-1], walk.may())
            walk.do(due[-1])
        self.assertEqual(walk.hanging(), h)
        self.assertEqual(steps_of(h), due)

    def test_more_words(self):
        for h in PLAIN[6]:
            self.led_by_words(h)
        for seed in range(40):
            self.led_by_words(some_plain(seed, 12))
        for seed in range(40):
            h = some_hanging(seed, 12)
            if crossings_gone_through(h):
                self.assertRaises(NoPlain, steps_of, h)

    def test_a_reader_does_them(self):
        for seed in range(20):
            h = some_plain(seed, 12)
            reader = Reader(12)
            for word in steps_of(h):
                reader.step(word)
            self.assertEqual(reader.hanging(), h)

    def test_the_list_is_the_askers_own(self):
        told = steps_of((0, 1))
        told.clear()
        self.assertEqual(steps_of((0, 1)), ["read", "read", "under"])


class LedTest(unittest.TestCase):
    def refused(self, n, steps, place):
        kept = list(steps)
        with self.assertRaises(HangError) as caught:
            led(n, steps)
        self.assertIs(type(caught.exception), NoStep)
        self.assertEqual(caught.exception.place, place)
        self.assertEqual(steps, kept)

    def test_ordinary(self):
        self.assertEqual(led(3, ["read", "next", "read", "read"]), ((2, 3), 4, (2, None, None)))
        self.assertEqual(led(3, ["read", "next", "read", "read", "under"]), ((2,), 4, (2, None, 2)))

    def test_no_steps_at_all(self):
        for n in (1, 2, 12):
            self.assertEqual(led(n, []), ((), 1, (None,) * n))

    def test_one_word(self):
        self.assertEqual(led(1, ["read"]), ((1,), 2, (None,)))
        for word in STEPS:
            self.refused(1, ["read", word], 1)

    def test_steps_that_can_not_be_done(self):
        for steps, place in [
            (["next"], 0), (["under", "read"], 0), (["read", "under", "read", "read"], 1),
            (["read", "read", "next", "under", "read"], 3), (["read", "next", "next"], 2),
            (["read", "read", "read", "read"], 3), (["read", "read", "read", "next", "under"], 3),
            (["read", "read", "read", "under", "under", "under"], 5), (["read", "next", "under", "next"], 2),
        ]:
            self.refused(3, steps, place)

    def test_any_other_text(self):
        for word in OTHER_STEPS:
            self.refused(3, [word], 0)
            self.refused(3, ["read", word, "under"], 1)
            self.refused(3, ["read", "read", "read", "under", "under", word], 5)

    def test_all_lists_of_few_words(self):
        for n in range(1, 5):
            for steps in all_step_lists(n):
                walk = Walk(n, steps)
                self.assertEqual(led(n, steps), walk.stand())
                for word in STEPS:
                    if word not in walk.may():
                        self.refused(n, steps + [word], len(steps))
                        self.refused(n, steps + [word, "read", "under"], len(steps))

    def test_as_a_reader_stands(self):
        for seed in range(10):
            steps = steps_of(some_plain(seed, 12))
            reader = Reader(12)
            for at, word in enumerate(steps):
                self.assertEqual(led(12, steps[:at]), reader.stand())
                reader.step(word)
            self.assertEqual(led(12, reader.steps()), reader.stand())

    def test_what_is_handed_in_stays(self):
        steps = ["read", "read", "under"]
        led(2, steps)
        self.assertEqual(steps, ["read", "read", "under"])


class WaysToTest(unittest.TestCase):
    def test_ordinary(self):
        self.assertEqual(ways_to((2, 0, 2)), 1)
        self.assertEqual(ways_to((0, 1, 4, 1)), 2)

    def test_one_word(self):
        self.assertEqual(ways_to((0,)), 1)

    def test_all_of_few_words(self):
        for n in range(1, 5):
            lists = done_lists(n)
            for h in hangings_gone_through(n):
                self.assertEqual(ways_to(h), len(lists[h]), h)

    def test_nought_just_where_it_is_not_plain(self):
        for h in hangings_gone_through(5):
            self.assertEqual(ways_to(h) == 0, crossings_gone_through(h) != [])
        for seed in range(40):
            h = some_hanging(seed, 8)
            self.assertEqual(ways_to(h) == 0, crossings_gone_through(h) != [])

    def test_words_that_wait(self):
        # Word 2 hangs on word 1, and may be hung ahead of, between and behind words that each hang on the next one.
        for n in range(4, 9):
            self.assertEqual(ways_to((0, 1) + tuple(range(4, n + 1)) + (1,)), n - 2)
            # Here they wait for the last one, so there is nothing between.
            self.assertEqual(ways_to((0, 1) + (n,) * (n - 3) + (1,)), 2)

    def test_all_of_them_together(self):
        # Each list of steps that is done leads to one hanging.
        for n in range(1, 6):
            many = sum(1 for steps in all_step_lists(n) if Walk(n, steps).hanging() is not None)
            self.assertEqual(sum(ways_to(h) for h in PLAIN[n]), many)

    def test_eight_words(self):
        for seed in range(30):
            h = some_plain(seed, 8)
            self.assertEqual(ways_to(h), counted_down(h, Walk(8)))


def counted_down(h, walk):
    """How many lists lead from there to h, step for step."""
    if walk.hanging() is not None:
        return int(walk.hanging() == h)
    many = 0
    for word in walk.may():
        onward = Walk(walk.n)
        onward.pile, onward.at, onward.ons = list(walk.pile), walk.at, dict(walk.ons)
        onward.do(word)
        if all(h[at - 1] == on for at, on in onward.ons.items()):
            many += counted_down(h, onward)
    return many
