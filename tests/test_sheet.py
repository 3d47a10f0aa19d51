"""Points 19 and 20: sheets."""

import functools
import random
import re
import unittest

from hungwords.books import Book
from hungwords.errors import BadSheet, HangError
from hungwords.sheet import run
from tests.helper import (
    STEPS, Walk, come_to_from, comes_to_none, crossings_gone_through, even_table, in_order, plain_in_order, put_at,
    ranked_by_words,
)

PLAIN_FIGURES = "(?:0|[1-9][0-9]*)"
FORMS = [
    "words(?: [a-z]{1,8}){1,12}", "learn", "read", "next", "under", "back", "plain", "any", "stand", "still", "sure",
    f"worth {PLAIN_FIGURES} {PLAIN_FIGURES} (?:0|-?[1-9][0-9]{{0,8}})", f"bar {PLAIN_FIGURES} {PLAIN_FIGURES}",
    f"put(?: {PLAIN_FIGURES})+", f"crossings(?: {PLAIN_FIGURES})+", f"(?:first|firstany) {PLAIN_FIGURES}",
    "cost (?:read|next|under)", "slips(?: (?:read|next|under))*",
]
onward = functools.cache(come_to_from)


def is_written(row, n):
    """Whether a row is written as told, with a row of n words, 0 where there is none yet."""
    if not any(re.fullmatch(form, row) for form in FORMS):
        return False
    word, *parts = row.split(" ")
    if word == "words":
        return True
    numbers = [int(part) for part in parts if part.isdigit()]
    if word in ("worth", "bar"):
        return n > 0 and 1 <= numbers[0] <= n and numbers[1] <= n and numbers[0] != numbers[1]
    if word in ("put", "crossings"):
        return n > 0 and len(numbers) == n and max(numbers) <= n
    return n > 0 and (word not in ("first", "firstany") or numbers[0] <= 60)


def first_wrong(text):
    """The number of the first row that isn't written as told, None where all are."""
    n = 0
    for at, row in enumerate(text.split("\n")):
        if row and not is_written(row, n):
            return at
        if row.startswith("words"):
            n = row.count(" ")
    return None


class Answerer:
    """Answers by the words of the document, all hangings gone through."""

    def __init__(self):
        self.entries = []

    def row(self, row):
        word, *parts = row.split(" ")
        return getattr(self, "do_" + (word if word not in STEPS else "step"))(word, parts)

    def do_words(self, word, parts):
        self.words, self.n, self.w, self.done = parts, len(parts), even_table(len(parts), 0), []

    def do_worth(self, word, parts):
        self.w = put_at(self.w, (int(parts[0]) - 1, int(parts[1])), int(parts[2]))

    def do_bar(self, word, parts):
        self.w = put_at(self.w, (int(parts[0]) - 1, int(parts[1])), None)

    def do_learn(self, word, parts):
        names = [""] + self.words
        self.w = tuple(
            tuple(None if on == at else self.often(names[at], names[on]) for on in range(self.n + 1))
            for at in range(1, self.n + 1)
        )

    def often(self, name, on):
        return sum(words[at] == name and (["", *words][hung] == on) for words, h in self.entries
                   for at, hung in enumerate(h))

    def do_step(self, word, parts):
        if word not in Walk(self.n, self.done).may():
            return "refused NoStep"
        self.done = self.done + [word]
        return "done"

    def do_back(self, word, parts):
        if not self.done:
            return "-"
        *self.done, last = self.done
        return last

    def hanging(self, parts):
        h = tuple(int(part) for part in parts)
        if h.count(0) != 1 or not all(comes_to_none(h, word) for word in range(1, self.n + 1)):
            return None
        return h

    def do_put(self, word, parts):
        if self.hanging(parts) is None:
            return "refused NoHanging"
        self.entries.append((self.words, self.hanging(parts)))
        return str(len(self.entries) - 1)

    def pairs(self, pairs):
        return " ; ".join(str(worth) + ": " + " ".join(map(str, h)) for worth, h in pairs) or "-"

    def do_plain(self, word, parts):
        return self.pairs(plain_in_order(self.w)[:1])

    def do_any(self, word, parts):
        return self.pairs(in_order(self.w)[:1])

    def do_first(self, word, parts):
        return self.pairs(plain_in_order(self.w)[:int(parts[0])])

    def do_firstany(self, word, parts):
        return self.pairs(in_order(self.w)[:int(parts[0])])

    def do_stand(self, word, parts):
        pile, at, ons = Walk(self.n, self.done).stand()
        pile = " ".join(map(str, pile)) or "-"
        return pile + " | " + str(at) + " | " + " ".join("." if on is None else str(on) for on in ons)

    def worth_from(self, steps):
        pairs = ranked_by_words(self.w, onward(self.n)[Walk(self.n, steps).stand()])
        return pairs[0][0] if pairs else None

    def do_still(self, word, parts):
        worth = self.worth_from(self.done)
        return "-" if worth is None else str(worth)

    def cost(self, steps, word):
        if word not in Walk(self.n, steps).may():
            return "refused NoStep"
        worths = [self.worth_from(steps), self.worth_from(steps + [word])]
        return None if None in worths else worths[0] - worths[1]

    def do_cost(self, word, parts):
        cost = self.cost(self.done, parts[0])
        return "-" if cost is None else str(cost)

    def do_sure(self, word, parts):
        return " ".join(step for step in STEPS if self.cost(self.done, step) == 0) or "-"

    def do_slips(self, word, parts):
        costs = []
        for at, step in enumerate(parts):
            costs.append(self.cost(parts[:at], step))
            if costs[-1] == "refused NoStep":
                return costs[-1]
        return " ".join("." if cost is None else str(cost) for cost in costs) or "-"

    def do_crossings(self, word, parts):
        h = self.hanging(parts)
        if h is None:
            return "refused NoHanging"
        found = crossings_gone_through(h)
        return " ".join(f"{a}-{b}/{c}-{d}" for (a, b), (c, d) in found) or "-"


def answers_due(text):
    answerer = Answerer()
    answers = [answerer.row(row) for row in text.split("\n") if row]
    return [answer for answer in answers if answer is not None]


def some_row(chance, n):
    """A row written as told, of n words."""
    word = chance.choice([
        "worth", "worth", "worth", "worth", "bar", "bar", "learn", "read", "read", "read", "next", "next", "under",
        "back", "put", "put", "plain", "any", "first", "firstany", "stand", "still", "cost", "sure", "slips",
        "crossings", "words", "",
    ])
    if word in ("worth", "bar"):
        one = chance.randint(1, n)
        other = chance.choice([on for on in range(n + 1) if on != one])
        worth = chance.choice([0, 1, -1, 3, -5, 999999999, -999999999, chance.randint(-9, 9)])
        return f"{word} {one} {other} {worth}" if word == "worth" else f"{word} {one} {other}"
    if word in ("put", "crossings"):
        ons = [chance.randint(0, n) for _ in range(n)]
        if chance.randrange(4):
            top = chance.randint(1, n)
            ons = [top] * n
            ons[top - 1] = 0
            ons[chance.randrange(n)] = chance.randint(0, n)
        return " ".join([word] + [str(on) for on in ons])
    if word in ("first", "firstany"):
        return f"{word} {chance.choice([0, 1, 2, 3, 60])}"
    if word == "cost":
        return "cost " + chance.choice(STEPS)
    if word == "slips":
        return " ".join(["slips"] + chance.choices(STEPS, [3, 1, 1], k=chance.randint(0, 5)))
    if word == "words":
        return some_words(chance)
    return word


def some_words(chance):
    return " ".join(["words"] + chance.choices(["a", "b", "dog", "abcdefgh"], k=chance.randint(1, 4)))


def some_sheet(seed):
    """A sheet of some rows, all written as told."""
    chance = random.Random(seed)
    rows = [""] * chance.randrange(2) + [some_words(chance)]
    n = rows[-1].count(" ")
    for _ in range(chance.randint(5, 50)):
        rows.append(some_row(chance, n))
        if rows[-1].startswith("words"):
            n = rows[-1].count(" ")
    return "\n".join(rows)


class AnswersTest(unittest.TestCase):
    def told(self, rows, due):
        self.assertEqual(run("\n".join(rows)), due)

    def test_without_any_row(self):
        for text in ["", "\n", "\n\n\n"]:
            self.assertEqual(run(text), [])

    def test_words_and_worths_are_not_answered(self):
        self.told(["words a b", "worth 1 2 5", "bar 2 1", "learn", "words c"], [])

    def test_plain_and_any(self):
        self.told(["words a b c", "plain", "any"], ["0: 0 1 1", "0: 0 1 1"])
        rows = ["words a b c", "worth 1 3 9", "worth 2 0 9", "worth 3 2 9", "any", "plain"]
        self.told(rows, ["27: 3 0 2", "18: 2 0 2"])
        self.told(["words a", "worth 1 0 -999999999", "plain", "any"], ["-999999999: 0", "-999999999: 0"])

    def test_none_may_be(self):
        rows = ["words a", "bar 1 0", "plain", "any", "first 60", "firstany 60", "still", "cost read", "sure"]
        self.told(rows, ["-"] * 7)
        self.told(["words a", "bar 1 0", "slips read", "slips"], [".", "-"])

    def test_first_and_firstany(self):
        self.told(["words a b", "worth 1 2 4", "first 60", "firstany 60"], ["4: 2 0 ; 0: 0 1"] * 2)
        self.told(["words a b", "first 0", "firstany 0", "first 1"], ["-", "-", "0: 0 1"])
        rows = ["words a b c", "worth 1 3 9", "worth 2 0 9", "worth 3 2 9", "first 2", "firstany 2"]
        self.told(rows, ["18: 2 0 2 ; 9: 0 1 2", "27: 3 0 2 ; 18: 2 0 2"])

    def test_the_reader(self):
        rows = [
            "words a b c", "stand", "under", "read", "stand", "read", "stand", "next", "back", "under", "stand", "read",
            "stand", "under", "stand", "read", "back", "back", "back", "back", "back", "back", "stand",
        ]
        self.told(rows, [
            "- | 1 | . . .", "refused NoStep", "done", "1 | 2 | . . .", "done", "1 2 | 3 | . . .", "done", "next",
            "done", "1 | 3 | . 1 .", "done", "1 3 | 4 | . 1 .", "done", "1 | 4 | . 1 1", "refused NoStep", "under",
            "read", "under", "read", "read", "-", "- | 1 | . . .",
        ])

    def test_still_cost_and_sure(self):
        rows = [
            "words a b", "worth 1 2 8", "worth 2 0 5", "worth 1 0 1", "worth 2 1 2", "still", "cost read", "cost next",
            "sure", "read", "still", "cost read", "cost next", "cost under", "sure", "read", "still", "sure", "under",
            "still", "sure", "cost read",
        ]
        self.told(rows, [
            "13", "0", "refused NoStep", "read", "done", "13", "10", "0", "refused NoStep", "next", "done", "3",
            "under", "done", "3", "-", "refused NoStep",
        ])

    def test_several_sure_steps_and_ones_that_can_be_no_more(self):
        self.told(["words a b c", "read", "read", "sure"], ["done", "done", "read next under"])
        rows = ["words a b", "bar 2 1", "read", "cost read", "sure", "read", "still", "cost under", "sure"]
        self.told(rows, ["done", "-", "next", "done", "-", "-", "-"])

    def test_slips(self):
        rows = [
            "words a b", "worth 1 2 8", "worth 2 0 5", "worth 1 0 1", "worth 2 1 2", "read", "slips read read under",
            "slips read next read", "slips", "slips under", "slips read read read", "stand",
        ]
        self.told(rows, ["done", "0 10 0", "0 0 0", "-", "refused NoStep", "refused NoStep", "1 | 2 | . ."])
        self.told(["words a b", "bar 2 1", "slips read read under"], ["0 . ."])

    def test_crossings(self):
        rows = ["words a b c d", "crossings 3 0 2 3", "crossings 2 0 2 2", "crossings 0 0 1 1", "crossings 3 4 0 3"]
        self.told(rows, ["0-2/1-3", "-", "refused NoHanging", "0-3/2-4 1-3/2-4"])
        self.told(["words a", "crossings 0", "crossings 1"], ["-", "refused NoHanging"])

    def test_put_and_learn(self):
        rows = [
            "words the dog", "put 2 0", "put 0 0", "put 1 0", "put 2 0", "put 0 1", "words dog the the", "plain",
            "learn", "plain", "first 3",
        ]
        self.told(rows, [
            "0", "refused NoHanging", "refused NoHanging", "1", "2", "0: 0 1 1", "6: 0 1 1",
            "6: 0 1 1 ; 4: 0 1 2 ; 4: 0 3 1",
        ])

    def test_learn_takes_what_was_put_so_far(self):
        rows = ["words a b", "learn", "put 2 0", "plain", "learn", "plain", "put 2 0", "plain", "learn", "plain"]
        self.told(rows, ["0", "0: 0 1", "2: 2 0", "1", "2: 2 0", "4: 2 0"])

    def test_learn_overwrites_worths_and_bars(self):
        rows = ["words a b", "worth 1 2 7", "bar 2 1", "learn", "first 60", "worth 2 1 3", "plain"]
        self.told(rows, ["0: 0 1 ; 0: 2 0", "3: 0 1"])

    def test_learn_behind_put_hangings_of_other_words(self):
        rows = [
            "words a b c", "put 2 0 2", "words b a", "learn", "any", "words c", "learn", "plain", "words a a",
            "learn", "any",
        ]
        self.told(rows, ["0", "2: 0 1", "0: 0", "0: 0 1"])

    def test_as_the_book_tells(self):
        book = Book()
        book.put(["x", "y", "x"], (2, 0, 2))
        book.put(["y", "x"], (0, 1))
        rows = ["words x y x", "put 2 0 2", "words y x", "put 0 1", "words x x y", "learn", "first 60"]
        pairs = plain_in_order(book.table_for(["x", "x", "y"]))
        self.assertEqual(run("\n".join(rows))[2], Answerer().pairs(pairs))

    def test_new_words_in_the_middle(self):
        rows = [
            "words a b", "worth 1 2 7", "read", "put 0 1", "words a b", "stand", "plain", "back", "put 0 1", "words a",
            "crossings 0", "stand",
        ]
        self.told(rows, ["done", "0", "- | 1 | . .", "0: 0 1", "-", "1", "-", "- | 1 | ."])

    def test_worth_and_bar_one_behind_the_other(self):
        rows = [
            "words a b", "bar 2 1", "first 60", "worth 2 1 5", "first 60", "worth 2 1 -5", "first 60", "worth 2 1 0",
            "plain",
        ]
        self.told(rows, ["0: 2 0", "5: 0 1 ; 0: 2 0", "0: 2 0 ; -5: 0 1", "0: 0 1"])

    def test_empty_rows_are_passed_over(self):
        self.assertEqual(run("\n\nwords a\n\nplain\n\n\nread\n\n"), ["0: 0", "done"])

    def test_twelve_words(self):
        names = "a b c d e f g h i j k abcdefgh"
        rows = ["words " + names, "worth 12 11 999999999", "worth 1 12 -999999999", "put" + " 12" * 11 + " 0", "plain",
                "first 60", "read", "next", "stand", "still"]
        answers = run("\n".join(rows))
        self.assertEqual(answers[:2], ["0", "999999999: 0 1 1 1 1 1 1 1 1 1 1 11"])
        self.assertEqual(len(answers[2].split(" ; ")), 60)
        self.assertEqual(answers[3:], ["done", "done", "- | 2 | 2" + " ." * 11, "999999999"])

    def test_some_sheets(self):
        for seed in range(250):
            text = some_sheet(seed)
            self.assertIsNone(first_wrong(text))
            self.assertEqual(run(text), answers_due(text), text)

    def test_a_sheet_is_told_again_the_same(self):
        text = some_sheet(7)
        first = run(text)
        kept = list(first)
        first.clear()
        self.assertEqual(run(text), kept)
        self.assertIsNot(run(text), run(text))


class BadRowsTest(unittest.TestCase):
    def refused(self, rows, at):
        text = "\n".join(rows)
        with self.assertRaises(HangError) as caught:
            run(text)
        self.assertIs(type(caught.exception), BadSheet, rows[at])
        self.assertEqual(caught.exception.row, at, rows[at])

    def wrong(self, row, words="words a b c"):
        """Behind words, behind empty rows and answers, ahead of others that are wrong, and as the last row."""
        self.refused([words, row], 1)
        self.refused([words, "plain", "", "read", "", row, "", "nonsense", row], 5)

    def test_ahead_of_the_first_words(self):
        for row in [
            "worth 1 2 5", "bar 1 2", "learn", "read", "next", "under", "back", "put 0", "put", "plain", "any",
            "first 1",
            "firstany 1", "stand", "still", "cost read", "sure", "slips", "slips read", "crossings 0", "crossings",
        ]:
            self.refused([row], 0)
            self.refused([row, "words a"], 0)
            self.refused(["", "", row, "words a"], 2)

    def test_ahead_of_all_answers(self):
        self.refused(["words a", "plain", "read", "plain", "x"], 4)

    def test_the_last_row(self):
        self.refused(["words a", "plain", "plain "], 2)
        self.refused(["words a", "plain", "", "x", ""], 3)

    def test_words(self):
        for row in [
            "words", "words ", "words A", "words a  b", "words a b ", " words a", "words abcdefghi", "words a1",
            "words a_b",
            "words a,b", "Words a", "word a", "wordsa", "words\ta", "words a b c d e f g h i j k l m", "words a-b",
            "words 1",
            "words  a", "words a.",
        ]:
            self.refused([row], 0)
            self.wrong(row)
        self.assertEqual(run("words a b c d e f g h i j k l\nwords abcdefgh\nwords words put\nplain"), ["0: 0 1"])

    def test_rows_without_more(self):
        for word in ["learn", "read", "next", "under", "back", "plain", "any", "stand", "still", "sure"]:
            self.assertIsNotNone(run("words a b c\n" + word))
            for row in [
                word + " ", " " + word, word + " 1", word + " " + word, word.upper(), word + "s", word[:-1],
                word + " read",
            ]:
                self.wrong(row)

    def test_worth(self):
        for row in [
            "worth 1 2 0", "worth 3 0 -1", "worth 2 3 999999999", "worth 2 1 -999999999", "worth 1 0 10",
            "worth 1 3 100",
        ]:
            self.assertEqual(run("words a b c\n" + row), [])
        for row in [
            "worth", "worth 1", "worth 1 2", "worth 1 2 3 4", "worth 1 1 5", "worth 3 3 5", "worth 0 1 5",
            "worth 0 0 5",
            "worth 4 1 5", "worth 1 4 5", "worth 01 2 5", "worth 1 02 5", "worth 1 00 5", "worth 1 2 05",
            "worth 1 2 00",
            "worth 1 2 -0", "worth 1 2 -05", "worth 1 2 +5", "worth 1 2 --5", "worth 1 2 -", "worth 1 2 1000000000",
            "worth 1 2 -1000000000", "worth 1 2 5 ", " worth 1 2 5", "worth  1 2 5", "worth 1  2 5", "worth 1 2  5",
            "worth 1 2 5.0", "worth 1 2 a", "worth a 2 5", "worth 1 b 5", "worth -1 2 5", "worth 1 -2 5",
            "worth 1 2 1_0",
            "worth 1 2 " + "9" * 5000, "worth 1 2 0000000001", "worth 1 2 5-", "worth 1 2 - 5", "worth 1 2 None",
        ]:
            self.wrong(row)

    def test_bar(self):
        for row in ["bar 1 0", "bar 1 2", "bar 3 2"]:
            self.assertEqual(run("words a b c\n" + row), [])
        for row in [
            "bar", "bar 1", "bar 1 1", "bar 0 1", "bar 0 0", "bar 4 1", "bar 1 4", "bar 1 2 3", "bar 1 2 ",
            "bar  1 2", "bar 01 2",
            "bar 1 00", "bar 1 -0", "bar a b", "bar 1,2", "bar 1 " + "1" * 5000,
        ]:
            self.wrong(row)

    def test_numbers_of_words_as_many_as_there_are(self):
        self.refused(["words a b c", "worth 1 3 5", "words a b", "worth 1 2 5", "worth 1 3 5"], 4)
        self.refused(["words a b", "put 0 1", "words a b c", "put 0 1"], 3)
        self.refused(["words a", "crossings 0", "bar 1 2"], 2)
        twelve = "words a b c d e f g h i j k l"
        self.assertEqual(run(twelve + "\nworth 12 10 5\nbar 10 12\nworth 11 0 7"), [])
        self.refused([twelve, "worth 13 1 5"], 1)

    def test_put_and_crossings(self):
        for word in ("put", "crossings"):
            for rest in [
                "", " ", " 0", " 0 1", " 0 1 1 1", " 0 1 4", " 0 1 -1", " 0 1 01", " 00 1 1", " 0 1 1 ", "  0 1 1",
                " 0  1 1",
                " 0 1 a", " 0,1,1", " 0 1 1.", " 0 1 +1", " 0 1 " + "1" * 5000,
            ]:
                self.wrong(word + rest)
            self.assertEqual(run("words a b c\n" + word + " 3 3 3"), ["refused NoHanging"])

    def test_first_and_firstany(self):
        for word in ("first", "firstany"):
            for many in (0, 1, 9, 10, 59, 60):
                self.assertEqual(len(run(f"words a b c\n{word} {many}")), 1)
            for rest in [
                "", " ", " 61", " 100", " 99", " 600", " -1", " -0", " 00", " 01", " 060", " 1 ", "  1", " 1 1",
                " a", " 1.0", " +1",
                " " + "1" * 5000,
            ]:
                self.wrong(word + rest)

    def test_cost_and_slips(self):
        for rest in [
            "", " ", " back", " reads", " Read", " read ", "  read", " read read", " 1", " read,next", " done", " -",
        ]:
            self.wrong("cost" + rest)
        for rest in [
            " ", " back", " reads", " Read", " read ", "  read", " read  next", " read x", " 1", " read,next",
            " x read",
        ]:
            self.wrong("slips" + rest)

    def test_rows_that_are_none(self):
        for row in [
            " ", "  ", "x", "-", "done", "refused", "crossing 0 1 1", "firstAny 1", "first_any 1", "#", "# plain",
            "plain;any",
            "plain any", "names", "drop 0", "twin", "entries", "table", "0", "1 2", "~", "plain\t", "\t",
            "slip read", "costs read",
        ]:
            self.wrong(row)
            self.refused([row, "words a"], 0)

    def test_blanks_alone_are_no_empty_row(self):
        self.refused(["words a", "", " ", "plain"], 2)
        self.refused([" "], 0)

    def test_sheets_with_something_wrong(self):
        seen = []
        for seed in range(400):
            chance = random.Random(seed)
            signs = list(some_sheet(seed))
            for _ in range(chance.randint(1, 2)):
                at = chance.randrange(len(signs))
                new = chance.choice(["", " ", "\n", "0", "1", "5", "-", "a", "Z", "~", "9"])
                signs[at:at + chance.randrange(2)] = new
            text = "".join(signs)
            seen.append(first_wrong(text))
            if seen[-1] is None:
                self.assertEqual(run(text), answers_due(text), text)
            else:
                self.refused(text.split("\n"), seen[-1])
        self.assertIn(None, seen)
        self.assertGreater(len(set(seen)), 10)

    def test_rows_taken_away_or_put_elsewhere(self):
        for seed in range(150):
            chance = random.Random(seed)
            rows = some_sheet(seed).split("\n")
            at, to = chance.randrange(len(rows)), chance.randrange(len(rows))
            rows[at], rows[to] = rows[to], rows[at]
            wrong = first_wrong("\n".join(rows))
            if wrong is None:
                self.assertEqual(run("\n".join(rows)), answers_due("\n".join(rows)))
            else:
                self.refused(rows, wrong)
