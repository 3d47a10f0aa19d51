"""Point 11: a reader."""

import random
import unittest

from hungwords.errors import HangError, NoStep
from hungwords.reading import Reader
from tests.helper import OTHER_STEPS, STEPS, Walk, all_step_lists, plain_gone_through, some_plain, word_towards


def led(n, steps):
    reader = Reader(n)
    for word in steps:
        reader.step(word)
    return reader


def told(reader):
    """All that a reader tells."""
    return reader.may(), reader.stand(), reader.is_done(), reader.hanging(), reader.steps()


class ReaderTest(unittest.TestCase):
    def refused(self, reader, word):
        before = told(reader)
        with self.assertRaises(HangError) as caught:
            reader.step(word)
        self.assertIs(type(caught.exception), NoStep)
        self.assertEqual(caught.exception.place, len(before[4]))
        self.assertEqual(told(reader), before)

    def test_at_its_beginning(self):
        for n in (1, 2, 12):
            self.assertEqual(told(Reader(n)), (["read"], ((), 1, (None,) * n), False, None, []))

    def test_each_step(self):
        reader = Reader(3)
        for word, stand in [
            ("read", ((1,), 2, (None, None, None))),
            ("next", ((), 2, (2, None, None))),
            ("read", ((2,), 3, (2, None, None))),
            ("read", ((2, 3), 4, (2, None, None))),
            ("under", ((2,), 4, (2, None, 2))),
        ]:
            self.assertIs(reader.step(word), None)
            self.assertEqual(reader.stand(), stand)
        self.assertIs(reader.is_done(), True)
        self.assertEqual(reader.hanging(), (2, 0, 2))
        self.assertEqual(reader.steps(), ["read", "next", "read", "read", "under"])
        self.assertEqual(reader.may(), [])

    def test_one_word(self):
        reader = Reader(1)
        self.assertIs(reader.is_done(), False)
        reader.step("read")
        self.assertEqual(told(reader), ([], ((1,), 2, (None,)), True, (0,), ["read"]))
        for word in STEPS + OTHER_STEPS:
            self.refused(reader, word)

    def test_not_done_with_two_on_the_pile_or_words_ahead(self):
        self.assertIs(led(2, ["read", "read"]).is_done(), False)
        self.assertIs(led(2, ["read", "read"]).hanging(), None)
        self.assertIs(led(2, ["read"]).is_done(), False)
        self.assertIs(led(2, ["read"]).hanging(), None)
        self.assertIs(led(2, ["read", "next"]).is_done(), False)

    def test_what_may_be_done_in_order(self):
        self.assertEqual(led(3, ["read"]).may(), ["read", "next"])
        self.assertEqual(led(3, ["read", "read"]).may(), ["read", "next", "under"])
        self.assertEqual(led(3, ["read", "read", "read"]).may(), ["under"])
        self.assertEqual(led(3, ["read", "next"]).may(), ["read"])

    def test_steps_that_can_not_be_done(self):
        self.refused(Reader(3), "next")
        self.refused(Reader(3), "under")
        self.refused(led(3, ["read"]), "under")
        self.refused(led(3, ["read", "next"]), "next")
        self.refused(led(3, ["read", "next", "read"]), "under")
        self.refused(led(3, ["read", "read", "read"]), "read")
        self.refused(led(3, ["read", "read", "read"]), "next")

    def test_any_other_text(self):
        for steps in [[], ["read"], ["read", "read"], ["read", "read", "read", "under", "under"]]:
            for word in OTHER_STEPS:
                self.refused(led(3, steps), word)

    def test_place_counts_the_steps_that_stand(self):
        reader = led(4, ["read", "read", "under"])
        reader.back()
        reader.back()
        with self.assertRaises(NoStep) as caught:
            reader.step("under")
        self.assertEqual(caught.exception.place, 1)

    def test_all_step_lists_of_few_words(self):
        for n in range(1, 5):
            reached = set()
            for steps in all_step_lists(n):
                walk, reader = Walk(n, steps), led(n, steps)
                due = walk.hanging()
                self.assertEqual(told(reader), (walk.may(), walk.stand(), due is not None, due, steps))
                for word in STEPS:
                    if word not in walk.may():
                        self.refused(reader, word)
                if due:
                    reached.add(due)
            self.assertEqual(sorted(reached), plain_gone_through(n))

    def test_twelve_words(self):
        for seed in range(20):
            h = some_plain(seed, 12)
            reader = Reader(12)
            while not reader.is_done():
                reader.step(word_towards(h, reader.stand()))
            self.assertEqual(reader.hanging(), h)
            self.assertEqual(len(reader.steps()), 23)

    def test_what_is_told_is_the_askers_own(self):
        reader = led(3, ["read", "read"])
        before = told(reader)
        for ask in (reader.may, reader.steps):
            first = ask()
            first.append("read")
            self.assertIsNot(ask(), ask())
        self.assertEqual(told(reader), before)

    def test_two_readers_beside_each_other(self):
        one, other = Reader(2), Reader(2)
        one.step("read")
        self.assertEqual(told(other), told(Reader(2)))
        other.step("read")
        other.step("next")
        self.assertEqual(one.stand(), ((1,), 2, (None, None)))


class BackTest(unittest.TestCase):
    def test_behind_the_first_step(self):
        reader = Reader(2)
        self.assertIs(reader.back(), None)
        reader.step("read")
        self.assertEqual(reader.back(), "read")
        self.assertIs(reader.back(), None)
        self.assertIs(reader.back(), None)
        self.assertEqual(told(reader), told(Reader(2)))

    def test_all_step_lists_taken_back(self):
        for steps in all_step_lists(3):
            reader = led(3, steps)
            for at in reversed(range(len(steps))):
                self.assertEqual(reader.back(), steps[at])
                self.assertEqual(told(reader), told(led(3, steps[:at])))
            self.assertIs(reader.back(), None)

    def test_steps_and_steps_taken_back_by_chance(self):
        for seed in range(10):
            chance = random.Random(seed)
            n = chance.randint(1, 12)
            reader, steps = Reader(n), []
            for _ in range(200):
                word = chance.choice(STEPS + ["back"])
                if word == "back":
                    self.assertEqual(reader.back(), steps.pop() if steps else None)
                elif word in Walk(n, steps).may():
                    reader.step(word)
                    steps.append(word)
                else:
                    self.assertRaises(NoStep, reader.step, word)
                self.assertEqual(reader.stand(), Walk(n, steps).stand())
                self.assertEqual(reader.steps(), steps)


class TwinTest(unittest.TestCase):
    def test_led_apart(self):
        reader = led(3, ["read", "read"])
        twin = reader.twin()
        self.assertIsInstance(twin, Reader)
        self.assertIsNot(twin, reader)
        self.assertEqual(told(twin), told(reader))
        twin.step("next")
        self.assertEqual(told(reader), told(led(3, ["read", "read"])))
        reader.step("under")
        reader.step("read")
        self.assertEqual(told(twin), told(led(3, ["read", "read", "next"])))
        self.assertEqual(told(reader), told(led(3, ["read", "read", "under", "read"])))

    def test_all_steps_come_with_it(self):
        reader = led(3, ["read", "next", "read"])
        twin = reader.twin()
        self.assertEqual([reader.back() for _ in range(4)], ["read", "next", "read", None])
        self.assertEqual(told(twin), told(led(3, ["read", "next", "read"])))
        self.assertEqual([twin.back() for _ in range(4)], ["read", "next", "read", None])
        self.assertEqual(told(twin), told(Reader(3)))

    def test_of_a_reader_that_is_done_and_of_one_at_its_beginning(self):
        self.assertEqual(told(Reader(5).twin()), told(Reader(5)))
        reader = led(1, ["read"])
        twin = reader.twin()
        reader.back()
        self.assertEqual(twin.hanging(), (0,))
        self.assertEqual(twin.twin().steps(), ["read"])
