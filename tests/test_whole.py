"""Points 1 and 2 and the interface: what is promised of the whole."""

import copy
import importlib
import inspect
import itertools
import random
import unittest

from hungwords.anybest import best_any, likeliest, paper_any, rings
from hungwords.anycheck import shows_best_any
from hungwords.anyseveral import first_any, lead_any
from hungwords.books import Book
from hungwords.errors import Apart, BadSheet, BadText, HangError, NoEntry, NoHanging, NoPlain, NoStep, NoSum
from hungwords.hangings import all_under, depth, hung_on, is_hanging, rehung, top, way_up
from hungwords.kinds import best_kinds, is_kinds, is_within, kinds_worth
from hungwords.listing import all_hangings, all_plain, hangings_many, next_plain, plain_many
from hungwords.numbered import ahead_any, ahead_plain, at_any, at_plain
from hungwords.pairs import Pair
from hungwords.plain import crossings, gappy, is_plain, stretch, ties, turned
from hungwords.reading import Reader
from hungwords.several import first_plain, lead_plain
from hungwords.shares import share_any, share_plain, shares_any, shares_plain
from hungwords.sheet import run
from hungwords.slips import allowed, best_still, cost, slips, still, sure_steps
from hungwords.spancheck import shows_best_plain
from hungwords.spans import best_plain, spans
from hungwords.steps import led, steps_of, ways_to
from hungwords.sums import is_factors, product, sum_any, sum_plain
from hungwords.texts import hanging_from, hanging_text
from hungwords.worths import alone, is_table, without, worth_of
from tests.helper import (
    PLAIN, STEPS, Walk, all_step_lists, crossings_gone_through, even_factors, even_table, hangings_gone_through,
    in_order, plain_in_order, some_factors, some_hanging, some_plain, some_table, stands_gone_through,
)

INTERFACE = {
    "hangings": "is_hanging/1 top/1 hung_on/2 all_under/2 way_up/2 depth/1 rehung/3",
    "plain": "ties/1 crossings/1 is_plain/1 stretch/2 gappy/1 turned/1",
    "listing": "all_hangings/1 all_plain/1 hangings_many/1 plain_many/1 next_plain/1",
    "worths": "is_table/1 worth_of/2 without/3 alone/3",
    "spans": "spans/1 best_plain/1",
    "spancheck": "shows_best_plain/3",
    "several": "first_plain/2 lead_plain/1",
    "anybest": "best_any/1 likeliest/1 rings/1 paper_any/1",
    "anycheck": "shows_best_any/3",
    "anyseveral": "first_any/2 lead_any/1",
    "steps": "steps_of/1 led/2 ways_to/1",
    "slips": "allowed/1 still/2 best_still/2 cost/3 slips/2 sure_steps/2",
    "sums": "is_factors/1 product/2 sum_any/1 sum_plain/1",
    "shares": "shares_any/1 shares_plain/1 share_any/3 share_plain/3",
    "numbered": "at_any/2 at_plain/2 ahead_any/2 ahead_plain/2",
    "kinds": "is_kinds/1 kinds_worth/3 is_within/3 best_kinds/2",
    "texts": "hanging_text/1 hanging_from/1",
    "sheet": "run/1",
}
CLASSES = {
    ("reading", "Reader", 1): "step/1 may/0 stand/0 is_done/0 hanging/0 steps/0 back/0 twin/0",
    ("books", "Book", 0):
        "put/2 drop/1 rehang/3 rename/3 back/0 entries/0 often/2 names/0 table_for/1 factors_for/1 twin/0",
    ("pairs", "Pair", 2): "step/2 back/0 stands/0 alike/0 unlike/0 allowed_both/0 can_meet/0 meet/1 twin/0",
}
H = (2, 0, 2, 3)
CROSSED = (3, 0, 2, 2)
W = some_table(2, 4, -9, 9, 10)
BARRED = even_table(4, None)
F = some_factors(2, 4, 9, 10)
T = tuple(tuple((("a", 3), ("b", on)) if on != word else () for on in range(5)) for word in range(1, 5))
STAND = ((1, 2), 3, (None, None, None, None))
SHEET = "words a b\nworth 1 2 5\nput 2 0\nfirst 60\nread\nstand\nsure\nslips read next\ncrossings 2 0"
ASKS = [
    (is_hanging, (H,)), (top, (H,)), (hung_on, (H, 2)), (hung_on, (H, 0)), (hung_on, (H, 1)), (all_under, (H, 2)),
    (way_up, (H, 4)), (depth, (H,)), (rehung, (H, 4, 1)), (ties, (H,)), (crossings, (CROSSED,)), (crossings, (H,)),
    (is_plain, (H,)), (stretch, (CROSSED, 3)), (gappy, ((3, 0, 2, 1),)), (gappy, (H,)), (turned, (H,)),
    (all_hangings, (3,)),
    (all_plain, (3,)), (hangings_many, (6,)), (plain_many, (6,)), (next_plain, (H,)), (next_plain, ((4, 4, 4, 0),)),
    (is_table, (W,)), (worth_of, (W, H)), (worth_of, (BARRED, H)), (without, (W, 1, 2)), (alone, (W, 1, 2)),
    (spans, (W,)), (spans, (BARRED,)), (best_plain, (W,)), (best_plain, (BARRED,)), (first_plain, (W, 9)),
    (first_plain, (W, 0)), (lead_plain, (W,)), (lead_plain, (BARRED,)), (best_any, (W,)), (best_any, (BARRED,)),
    (likeliest, (W,)), (likeliest, (BARRED,)), (rings, ((2, 1, 4, 3),)), (rings, ((2, 1, None, 0),)), (paper_any, (W,)),
    (paper_any, (even_table(4, 1),)), (paper_any, (BARRED,)), (shows_best_any, (W, H, paper_any(W))),
    (shows_best_plain, (W, H, spans(W))), (first_any, (W, 9)), (first_any, (BARRED, 9)), (lead_any, (W,)),
    (steps_of, (H,)), (led, (4, ["read", "read", "under"])), (led, (4, [])), (ways_to, (H,)), (ways_to, (CROSSED,)),
    (allowed, (STAND,)), (still, (W, STAND)), (still, (BARRED, STAND)), (best_still, (W, STAND)),
    (best_still, (BARRED, STAND)),
    (cost, (W, STAND, "under")), (cost, (BARRED, STAND, "under")), (slips, (W, ["read", "next"])),
    (slips, (BARRED, ["read"])),
    (slips, (W, [])), (sure_steps, (W, STAND)), (sure_steps, (BARRED, STAND)), (is_factors, (F,)), (product, (F, H)),
    (sum_any, (F,)), (sum_plain, (F,)), (shares_any, (F,)), (shares_plain, (F,)), (share_any, (F, 1, 2)),
    (share_plain, (F, 1, 1)), (at_any, (F, 3)), (at_plain, (F, 3)), (ahead_any, (F, CROSSED)), (ahead_plain, (F, H)),
    (is_kinds, (T,)), (kinds_worth, (T, H, ("a",) * 4)), (kinds_worth, (T, H, ("c",) * 4)),
    (is_within, (H, ("a",) * 4, [("a", 1)])), (best_kinds, (T, [("a", 1), ("b", 2)])), (best_kinds, (T, [])),
    (best_kinds, (T, [("a", 0), ("b", 0)])), (hanging_text, (H,)), (hanging_from, ("2 0 2 3",)), (run, (SHEET,)),
    (run, ("",)),
]
REFUSED = [
    (NoHanging, rehung, (H, 2, 3)), (NoPlain, steps_of, (CROSSED,)), (NoStep, led, (4, ["read", "under"])),
    (NoStep, cost, (BARRED, STAND, "back")), (NoStep, slips, (BARRED, ["next"])),
    (NoSum, shares_any, (even_factors(4, 0),)),
    (NoSum, shares_plain, (even_factors(4, 0),)), (NoSum, share_any, (even_factors(4, 0), 1, 2)),
    (NoSum, share_plain, (even_factors(4, 0), 1, 1)), (NoSum, at_any, (even_factors(4, 0), 0)),
    (NoSum, at_plain, (F, sum_plain(F))), (NoSum, at_any, (F, sum_any(F))), (BadText, hanging_from, ("2 0 2 03",)),
    (BadSheet, run, ("words a\nplain\nx",)),
]


def some_reader():
    reader = Reader(4)
    for word in ["read", "read", "under", "read"]:
        reader.step(word)
    return reader


def some_book():
    book = Book()
    book.put(["the", "dog", "barks"], (2, 3, 0))
    book.put(["the", "the"], (0, 1))
    book.rename(1, 2, "a")
    return book


def some_pair():
    pair = Pair(4, 1)
    for which, word in [(0, "read"), (1, "read"), (1, "next"), (0, "next"), (0, "read")]:
        pair.step(which, word)
    return pair


OBJECT_ASKS = [
    (some_reader, [("may", ()), ("stand", ()), ("is_done", ()), ("hanging", ()), ("steps", ())]),
    (some_book, [
        ("entries", ()), ("often", ("the", "dog")), ("names", ()), ("table_for", (["the", "the", "x"],)),
        ("factors_for", (["the", "dog"],)),
    ]),
    (some_pair, [
        ("stands", ()), ("alike", ()), ("unlike", ()), ("allowed_both", ()), ("can_meet", ()), ("meet", (W,)),
        ("meet", (BARRED,)),
    ]),
]
DEEDS = [
    [("step", ("under",)), ("back", ()), ("step", ("next",)), ("step", ("read",)), ("back", ())],
    [
        ("put", (["x", "the"], (2, 0))), ("rehang", (0, 1, 3)), ("drop", (1,)), ("rename", (0, 2, "y")), ("back", ()),
        ("rehang", (0, 1, 1)),
    ],
    [("step", (0, "next")), ("step", (1, "read")), ("back", ()), ("step", (0, "read")), ("step", (1, "next"))],
]
OBJECT_REFUSED = [
    (some_reader, [(NoStep, "step", ("back",))]),
    (some_book, [
        (NoEntry, "drop", (2,)), (NoEntry, "rehang", (2, 1, 1)), (NoHanging, "rehang", (0, 1, 1)),
        (NoEntry, "rename", (2, 1, "x")),
    ]),
    (some_pair, [(NoStep, "step", (0, "under")), (Apart, "step", (0, "read"))]),
]


def tried(thing, name, things):
    """What a deed tells, or the class of its refusal."""
    try:
        return getattr(thing, name)(*things)
    except HangError as error:
        return type(error)


def told_behind_each(thing, asks, deeds):
    """The list of what each deed tells, with all that is told behind it."""
    return [
        (tried(thing, name, things), [tried(thing, ask, handed) for ask, handed in asks]) for name, things in deeds
    ]


def lists_in(thing):
    """All lists within a thing of lists and tuples."""
    found = [thing] if isinstance(thing, list) else []
    for part in thing if isinstance(thing, (list, tuple)) else []:
        found += lists_in(part)
    return found


def leaves(thing):
    """All that is within a thing of lists and tuples but these."""
    if isinstance(thing, (list, tuple)):
        return [leaf for part in thing for leaf in leaves(part)]
    return [thing]


class InterfaceTest(unittest.TestCase):
    def taken(self, thing):
        parameters = inspect.signature(thing).parameters.values()
        self.assertTrue(all(one.kind == one.POSITIONAL_OR_KEYWORD for one in parameters))
        return len(parameters)

    def test_functions(self):
        for name, rows in INTERFACE.items():
            module = importlib.import_module("hungwords." + name)
            for row in rows.split():
                function, many = row.split("/")
                self.assertEqual(self.taken(getattr(module, function)), int(many), row)

    def test_classes(self):
        for (name, kind, handed), rows in CLASSES.items():
            made = getattr(importlib.import_module("hungwords." + name), kind)
            self.assertEqual(self.taken(made), handed)
            for row in rows.split():
                method, many = row.split("/")
                self.assertEqual(self.taken(getattr(made, method)), int(many) + 1, row)

    def test_each_is_asked_below(self):
        asked = {function.__name__ for function, _ in ASKS}
        asked |= {function.__name__ for _, function, _ in REFUSED}
        due = {row.split("/")[0] for rows in INTERFACE.values() for row in rows.split()}
        self.assertEqual(asked, due)


class TellingTest(unittest.TestCase):
    """Point 2: what is handed in, and what is told."""

    def asked_again(self, ask, things):
        kept = copy.deepcopy(things)
        first, second = ask(*things), ask(*things)
        self.assertEqual(first, second)
        self.assertEqual(things, kept)
        every = lists_in(first) + lists_in(second) + lists_in(things)
        self.assertEqual(len({id(one) for one in every}), len(every), ask)
        told = copy.deepcopy(first)
        for one in lists_in(first):
            one.append("something else")
        for one in reversed(lists_in(first)):
            one.clear()
        self.assertEqual(ask(*things), told)
        self.assertEqual(second, told)
        return told

    def of_right_kinds(self, name, told):
        whether = name.startswith(("is_", "shows_", "can_"))
        self.assertEqual(type(told) is bool, whether, name)
        for leaf in leaves(told):
            self.assertIn(type(leaf), (bool,) if whether else (int, str, type(None)), name)

    def test_functions(self):
        for function, things in ASKS:
            self.of_right_kinds(function.__name__, self.asked_again(function, things))

    def test_objects(self):
        for make, asks in OBJECT_ASKS:
            thing = make()
            for name, things in asks:
                told = self.asked_again(getattr(thing, name), things)
                self.of_right_kinds(name, told)
                self.assertEqual(getattr(make(), name)(*things), told)

    def test_nothing_is_kept_to_be_read_later(self):
        words = ["the", "dog"]
        book = Book()
        book.put(words, (2, 0))
        words[0] = "x"
        words.append("y")
        self.assertEqual(book.entries(), [(0, ("the", "dog"), (2, 0))])

    def test_objects_beside_each_other(self):
        for (make, asks), deeds in zip(OBJECT_ASKS, DEEDS):
            rows = deeds, deeds[1:] + deeds[:1]
            due = [told_behind_each(make(), asks, row) for row in rows]
            for order in itertools.product((0, 1), repeat=2 * len(deeds)):
                if sum(order) == len(deeds):
                    both, done = (make(), make()), [0, 0]
                    for which in order:
                        told = told_behind_each(both[which], asks, rows[which][done[which]:done[which] + 1])
                        self.assertEqual(told, due[which][done[which]:done[which] + 1])
                        done[which] += 1

    def test_twins_beside_their_first_ones(self):
        for (make, asks), deeds in zip(OBJECT_ASKS, DEEDS):
            due = told_behind_each(make(), asks, deeds)
            first = make()
            twin = first.twin()
            self.assertIs(type(twin), type(first))
            self.assertEqual(told_behind_each(first, asks, deeds), due)
            self.assertEqual(told_behind_each(twin, asks, deeds), due)
            self.assertEqual([twin.back() for _ in range(12)], [first.back() for _ in range(12)])

    def test_each_sheet_has_a_book_of_its_own(self):
        text = "words a b\nput 2 0\nlearn\nplain"
        self.assertEqual(run(text), ["0", "2: 2 0"])
        self.assertEqual(run(text), ["0", "2: 2 0"])

    def test_deeds_of_which_nothing_is_told(self):
        reader, book, pair = some_reader(), some_book(), some_pair()
        for deed, things in [
            (reader.step, ("under",)), (book.rehang, (0, 1, 3)), (book.rename, (0, 1, "x")), (book.drop, (0,)),
            (pair.step, (0, "next")),
        ]:
            self.assertIs(deed(*things), None)

    def test_what_was_told_may_be_handed_in_again(self):
        for seed in range(8):
            w = some_table(seed, 6, -9, 9, 0)
            self.assertTrue(shows_best_plain(w, best_plain(w)[1], spans(w)))
            self.assertTrue(shows_best_any(w, best_any(w)[1], paper_any(w)))
            self.assertTrue(is_table(without(alone(w, 1, 2), 3, 4)))
            h = first_plain(w, 3)[2][1]
            self.assertEqual(hanging_from(hanging_text(h)), h)
            steps = steps_of(h)
            stand = led(6, steps[:5])
            self.assertLessEqual(worth_of(w, h), still(w, stand))
            self.assertEqual(rings(likeliest(w)), rings(likeliest(w)))
        book = some_book()
        for number, words, h in book.entries():
            self.assertTrue(is_table(book.table_for(list(words))))
            self.assertTrue(is_factors(book.factors_for(list(words))))
            self.assertEqual(best_plain(book.table_for(list(words)))[1], h)
        reader = some_reader()
        self.assertEqual(led(4, reader.steps()), reader.stand())
        for stand in some_pair().stands():
            self.assertTrue(set(sure_steps(W, stand)) <= set(STEPS))

    def test_is_and_shows_may_be_asked_of_anything(self):
        asks = [
            is_hanging, is_table, is_factors, is_kinds, lambda thing: shows_best_plain(W, H, thing),
            lambda thing: shows_best_any(W, H, thing),
        ]
        for seed in range(3000):
            thing = some_thing(random.Random(seed), 9)
            kept = copy.deepcopy(thing)
            for ask in asks:
                self.assertIs(type(ask(thing)), bool)
            self.assertEqual(thing, kept)


def some_thing(chance, deep):
    """A thing of numbers, True, False, None, texts, lists and tuples, at most so deep."""
    kind = chance.randrange(9 if deep else 5)
    if kind < 5:
        return chance.choice([0, 1, 2, -1, 10 ** 30, True, False, None, "", "a", "0", "dog", "(0,)"])
    parts = [some_thing(chance, deep - 1) for _ in range(chance.randrange(5))]
    return parts if kind < 7 else tuple(parts)


class RefusalsTest(unittest.TestCase):
    def refused(self, error, deed, things):
        kept = copy.deepcopy(things)
        with self.assertRaises(HangError) as caught:
            deed(*things)
        self.assertIs(type(caught.exception), error)
        self.assertEqual(type(caught.exception).__bases__, (HangError,))
        self.assertIsInstance(caught.exception, ValueError)
        self.assertEqual(things, kept)

    def test_functions(self):
        for error, function, things in REFUSED:
            self.refused(error, function, things)

    def test_objects_are_as_they_were(self):
        for (make, rows), (other, asks) in zip(OBJECT_REFUSED, OBJECT_ASKS):
            self.assertIs(make, other)
            thing = make()
            for error, name, things in rows:
                self.refused(error, getattr(thing, name), things)
                for ask, handed in asks:
                    self.assertEqual(getattr(thing, ask)(*handed), getattr(make(), ask)(*handed))
            # No refusal is a step or a change that is taken back.
            fresh = make()
            for _ in range(8):
                self.assertEqual(thing.back(), fresh.back())

    def test_each_class_is_refused_with(self):
        errors = [error for error, _, _ in REFUSED] + [row[0] for _, rows in OBJECT_REFUSED for row in rows]
        self.assertEqual(set(errors), {NoHanging, NoPlain, NoSum, NoEntry, Apart, BadText, NoStep, BadSheet})


class PromisesTest(unittest.TestCase):
    """Point 1, row by row."""

    def test_papers_show_the_best_ones(self):
        for seed in range(30):
            n = 1 + seed % 12
            w = some_table(seed, n, -10 ** 9 if seed % 2 else -2, 10 ** 9 if seed % 2 else 2, seed % 20)
            for best, shows, paper in [
                (best_plain(w), shows_best_plain, spans(w)), (best_any(w), shows_best_any, paper_any(w)),
            ]:
                if best is not None:
                    self.assertTrue(is_hanging(best[1]))
                    self.assertEqual(worth_of(w, best[1]), best[0])
                    self.assertIs(shows(w, best[1], paper), True)
            if best_plain(w) is not None:
                self.assertTrue(is_plain(best_plain(w)[1]))
                self.assertGreaterEqual(best_any(w)[0], best_plain(w)[0])

    def test_papers_of_lesser_ones_show_nothing(self):
        for seed in range(10):
            w = some_table(seed, 6, -9, 9, 0)
            for other in range(30):
                plain, h = some_plain(other, 6), some_hanging(other, 6)
                self.assertIs(shows_best_plain(w, plain, spans(w)), worth_of(w, plain) == best_plain(w)[0])
                self.assertIs(shows_best_any(w, h, paper_any(w)), worth_of(w, h) == best_any(w)[0])

    def test_the_first_so_many(self):
        for seed in range(20):
            w = some_table(seed, 1 + seed % 4, -2, 2, seed)
            self.assertEqual(first_plain(w, 60), plain_in_order(w)[:60])
            self.assertEqual(first_any(w, 60), in_order(w)[:60])
            self.assertEqual([h for worth, h in first_plain(w, 60)],
                             [h for worth, h in first_any(w, 64) if not crossings_gone_through(h)])

    def test_steps_lead_just_to_the_hanging_told(self):
        for n in range(1, 5):
            led_to = {}
            for steps in all_step_lists(n):
                reader = Reader(n)
                for word in steps:
                    reader.step(word)
                self.assertEqual(reader.stand(), led(n, steps))
                if reader.is_done():
                    led_to.setdefault(reader.hanging(), []).append(steps)
            self.assertEqual(sorted(led_to), PLAIN[n])
            for h, lists in led_to.items():
                self.assertEqual(ways_to(h), len(lists))
                self.assertIn(steps_of(h), lists)

    def test_slips(self):
        for seed in range(6):
            w = some_table(seed, 12, -50, 50, 0)
            steps = some_steps(seed, 12)
            costs = slips(w, steps)
            stands = [led(12, steps[:at]) for at in range(len(steps) + 1)]
            for at, word in enumerate(steps):
                self.assertEqual(costs[at], still(w, stands[at]) - still(w, stands[at + 1]))
                self.assertEqual(cost(w, stands[at], word), costs[at])
                self.assertEqual(word in sure_steps(w, stands[at]), costs[at] == 0)
            end = tuple(on or 0 for on in stands[-1][2])
            self.assertEqual(sum(costs), best_plain(w)[0] - worth_of(w, end))

    def test_shares(self):
        for seed in range(12):
            f = some_factors(seed, 1 + seed % 4, 4, 20)
            for sort, total, shares, share, at, ahead in [
                (hangings_gone_through, sum_any, shares_any, share_any, at_any, ahead_any),
                (PLAIN.get, sum_plain, shares_plain, share_plain, at_plain, ahead_plain),
            ]:
                hangings = sort(len(f))
                self.assertEqual(total(f), sum(product(f, h) for h in hangings))
                if total(f):
                    self.shared_out(f, hangings, shares(f), share)
                    numbered = [h for h in hangings for _ in range(product(f, h))]
                    for number in range(0, len(numbered), 1 + len(numbered) // 50):
                        self.assertEqual(at(f, number), numbered[number])
                for h in hangings:
                    self.assertEqual(ahead(f, h), sum(product(f, lesser) for lesser in hangings if lesser < h))

    def shared_out(self, f, hangings, told, share):
        total = sum(product(f, h) for h in hangings)
        for word, row in enumerate(told, start=1):
            whole = 0
            for on, (above, below) in enumerate(row):
                self.assertEqual(share(f, word, on), (above, below))
                part = sum(product(f, h) for h in hangings if h[word - 1] == on)
                self.assertEqual(above * total, below * part)
                whole += part
            self.assertEqual(whole, total)

    def test_a_changed_book_tells_what_one_made_anew_tells(self):
        book, anew = some_book(), Book()
        book.rehang(0, 1, 3)
        book.drop(1)
        book.put(["dog"], (0,))
        for _, words, h in book.entries():
            anew.put(list(words), h)
        names = ["the", "dog", "barks", "a", "the"]
        for ask, things in [
            ("names", ()), ("table_for", (names,)), ("factors_for", (names,)), ("often", ("the", "barks")),
        ]:
            self.assertEqual(getattr(book, ask)(*things), getattr(anew, ask)(*things))
        self.assertEqual([book.back() for _ in range(3)], ["put", "drop", "rehang"])
        self.assertEqual(book.entries(), some_book().entries())
        self.assertEqual(book.put(["x"], (0,)), 2)

    def test_two_readers_meet_just_where_told(self):
        lists = stands_gone_through(3)
        for one, other in itertools.product(lists.values(), repeat=2):
            pair = Pair(3, 3)
            for which, steps in enumerate((one, other)):
                for word in steps:
                    pair.step(which, word)
            ends = [{h for h in PLAIN[3] if can_come(steps, h)} for steps in (one, other)]
            self.assertIs(pair.can_meet(), bool(ends[0] & ends[1]))

    def test_a_sheet_tells_what_the_functions_tell(self):
        w = some_table(5, 3, -9, 9, 0)
        rows = ["words a b c"] + [
            f"worth {word} {on} {worth}" for word, row in enumerate(w, start=1)
            for on, worth in enumerate(row) if worth is not None
        ]
        asks = ["plain", "any", "first 2", "firstany 2", "still", "cost read", "slips read next"]
        best, best_of_all = best_plain(w), best_any(w)
        self.assertEqual(run("\n".join(rows + asks)), [
            f"{best[0]}: {hanging_text(best[1])}", f"{best_of_all[0]}: {hanging_text(best_of_all[1])}",
            " ; ".join(f"{worth}: {hanging_text(h)}" for worth, h in first_plain(w, 2)),
            " ; ".join(f"{worth}: {hanging_text(h)}" for worth, h in first_any(w, 2)),
            str(best[0]), "0", " ".join(str(much) for much in slips(w, ["read", "next"])),
        ])


def some_steps(seed, n):
    """Steps to a done stand by a seed."""
    chance = random.Random(seed)
    walk, steps = Walk(n), []
    while walk.hanging() is None:
        steps.append(chance.choice(walk.may()))
        walk.do(steps[-1])
    return steps


def can_come(steps, h):
    """Whether some steps behind these lead to h, by going through all stands."""
    waiting = [steps]
    for done in waiting:
        walk = Walk(len(h), done)
        if walk.hanging() == h:
            return True
        waiting += [done + [word] for word in walk.may()]
    return False
