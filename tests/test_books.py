"""Point 17: books."""

import random
import unittest

from hungwords.books import Book
from hungwords.errors import HangError, NoEntry, NoHanging
from hungwords.sums import is_factors
from hungwords.worths import is_table
from tests.helper import some_hanging

NAMES = ["a", "b", "c", "zz", "abcdefgh"]


def told(book):
    """All that a book tells of what is in it."""
    table = [[book.often(name, on) for on in [""] + NAMES] for name in NAMES]
    return book.entries(), book.names(), table, book.table_for(NAMES), book.factors_for(NAMES)


def put_anew(book):
    """A book into which the entries of another one are put."""
    other = Book()
    for _, words, h in book.entries():
        other.put(list(words), h)
    return other


def counted(book, name, on):
    """How often, by the words of the document."""
    many = 0
    for _, words, h in book.entries():
        for at, hung in enumerate(h):
            if words[at] == name and (words[hung - 1] if hung else "") == on:
                many += 1
    return many


class BookTest(unittest.TestCase):
    def setUp(self):
        self.book = Book()
        self.book.put(["dog", "the", "dog"], (0, 1, 1))
        self.book.put(["the", "dog", "barks"], (2, 3, 0))

    def refused(self, error, deed, *things):
        before = self.book.entries()
        with self.assertRaises(HangError) as caught:
            deed(*things)
        self.assertIs(type(caught.exception), error)
        self.assertEqual(self.book.entries(), before)

    def test_without_any(self):
        book = Book()
        self.assertEqual(book.entries(), [])
        self.assertEqual(book.names(), [])
        self.assertEqual(book.often("a", ""), 0)
        self.assertEqual(book.often("a", "b"), 0)
        self.assertIs(book.back(), None)
        self.assertEqual(book.table_for(["a"]), ((0, None),))
        self.assertEqual(book.factors_for(["a"]), ((1, 0),))
        self.assertEqual(book.put(["a"], (0,)), 0)

    def test_put_and_entries(self):
        self.assertEqual(self.book.put(["a"], (0,)), 2)
        self.assertEqual(self.book.entries(), [
            (0, ("dog", "the", "dog"), (0, 1, 1)), (1, ("the", "dog", "barks"), (2, 3, 0)), (2, ("a",), (0,)),
        ])

    def test_a_list_handed_in_may_be_changed_behind(self):
        words = ["x", "y"]
        self.book.put(words, (0, 1))
        words[0] = "z"
        words.append("w")
        self.assertEqual(self.book.entries()[-1], (2, ("x", "y"), (0, 1)))
        self.assertEqual(words, ["z", "y", "w"])

    def test_drop(self):
        self.assertIs(self.book.drop(0), None)
        self.assertEqual(self.book.entries(), [(1, ("the", "dog", "barks"), (2, 3, 0))])
        self.assertEqual(self.book.put(["a"], (0,)), 2)
        self.book.drop(2)
        self.assertEqual(self.book.put(["b"], (0,)), 3)

    def test_rehang(self):
        self.assertIs(self.book.rehang(0, 3, 2), None)
        self.assertEqual(self.book.entries()[0], (0, ("dog", "the", "dog"), (0, 1, 2)))
        self.assertEqual(self.book.entries()[1], (1, ("the", "dog", "barks"), (2, 3, 0)))

    def test_rename(self):
        for word, words in [(1, ("x", "the", "dog")), (2, ("x", "x", "dog")), (3, ("x", "x", "x"))]:
            self.assertIs(self.book.rename(0, word, "x"), None)
            self.assertEqual(self.book.entries()[0], (0, words, (0, 1, 1)))
        self.assertEqual(self.book.entries()[1], (1, ("the", "dog", "barks"), (2, 3, 0)))

    def test_numbers_that_are_not_there(self):
        self.book.drop(0)
        for number in [0, 2, -1, -2, 99, 10 ** 30]:
            self.refused(NoEntry, self.book.drop, number)
            self.refused(NoEntry, self.book.rehang, number, 1, 0)
            self.refused(NoEntry, self.book.rename, number, 1, "x")

    def test_hangings_that_would_be_none(self):
        for word, on in [(1, 1), (1, 2), (2, 0), (2, 2), (3, 3)]:
            self.refused(NoHanging, self.book.rehang, 0, word, on)

    def test_both_at_once(self):
        self.book.drop(0)
        for number in [0, 2, -1]:
            self.refused(NoEntry, self.book.rehang, number, 1, 1)
            self.refused(NoEntry, self.book.rehang, number, 2, 0)

    def test_a_refusal_changes_nothing(self):
        before = told(self.book)
        for deed, things in [
            (self.book.drop, (7,)), (self.book.rehang, (7, 1, 0)), (self.book.rehang, (0, 1, 1)),
            (self.book.rename, (7, 1, "x")),
        ]:
            self.assertRaises(HangError, deed, *things)
        self.assertEqual(told(self.book), before)
        self.assertEqual(self.book.put(["a"], (0,)), 2)
        self.assertEqual([self.book.back() for _ in range(4)], ["put", "put", "put", None])

    def test_often(self):
        self.assertEqual(self.book.often("dog", ""), 1)
        self.assertEqual(self.book.often("dog", "dog"), 1)
        self.assertEqual(self.book.often("the", "dog"), 2)
        self.assertEqual(self.book.often("dog", "the"), 0)
        self.assertEqual(self.book.often("dog", "barks"), 1)
        self.assertEqual(self.book.often("barks", ""), 1)
        self.assertEqual(self.book.often("cat", ""), 0)

    def test_names(self):
        self.assertEqual(self.book.names(), ["barks", "dog", "the"])
        self.book.drop(1)
        self.assertEqual(self.book.names(), ["dog", "the"])

    def test_tables(self):
        words = ["dog", "the", "cat", "dog"]
        self.assertEqual(self.book.table_for(words), (
            (1, None, 0, 0, 1), (0, 2, None, 0, 2), (0, 0, 0, None, 0), (1, 1, 0, 0, None),
        ))
        self.assertEqual(self.book.factors_for(words), (
            (2, 0, 1, 1, 2), (1, 3, 0, 1, 3), (1, 1, 1, 0, 1), (2, 2, 1, 1, 0),
        ))
        self.assertEqual(words, ["dog", "the", "cat", "dog"])
        self.assertEqual(self.book.table_for(["barks"]), ((1, None),))
        self.assertEqual(self.book.factors_for(["barks"]), ((2, 0),))

    def test_what_is_told_is_the_askers_own(self):
        for ask in (self.book.entries, self.book.names):
            first = ask()
            kept = list(first)
            first.clear()
            self.assertEqual(ask(), kept)
            self.assertIsNot(ask(), ask())


class BackTest(unittest.TestCase):
    def test_each_deed_is_taken_back(self):
        book = Book()
        seen = [told(book)]
        deeds = [
            (book.put, (["a", "b"], (0, 1))), (book.put, (["b", "c", "zz"], (2, 0, 2))), (book.rehang, (1, 3, 1)),
            (book.rename, (0, 2, "c")), (book.drop, (0,)), (book.put, (["a"], (0,))), (book.drop, (2,)),
        ]
        for deed, things in deeds:
            deed(*things)
            seen.append(told(book))
        words = []
        while told(book) != seen[0]:
            self.assertEqual(told(book), seen.pop())
            words.append(book.back())
        self.assertEqual(words, ["drop", "put", "drop", "rename", "rehang", "put", "put"])
        self.assertIs(book.back(), None)
        self.assertIs(book.back(), None)

    def test_the_next_number_behind_a_put_taken_back(self):
        book = Book()
        self.assertEqual([book.put(["a"], (0,)) for _ in range(3)], [0, 1, 2])
        book.back()
        self.assertEqual(book.put(["b"], (0,)), 2)
        book.drop(2)
        book.back()
        self.assertEqual(book.put(["c"], (0,)), 3)
        for _ in range(4):
            book.back()
        self.assertEqual(book.entries(), [])
        self.assertEqual(book.put(["a"], (0,)), 0)

    def test_entries_that_came_back_stand_in_order(self):
        book = Book()
        for name in ["a", "b", "c"]:
            book.put([name], (0,))
        book.drop(0)
        book.back()
        self.assertEqual([number for number, _, _ in book.entries()], [0, 1, 2])

    def test_changes_by_which_nothing_is_otherwise(self):
        book = Book()
        book.put(["a", "b"], (0, 1))
        before = told(book)
        book.rehang(0, 2, 1)
        book.rename(0, 1, "a")
        self.assertEqual(told(book), before)
        self.assertEqual([book.back(), book.back(), book.back(), book.back()], ["rename", "rehang", "put", None])


class TwinTest(unittest.TestCase):
    def test_goes_its_own_way(self):
        book = Book()
        book.put(["a", "b"], (0, 1))
        book.put(["c"], (0,))
        book.drop(1)
        twin = book.twin()
        self.assertIsInstance(twin, Book)
        before = told(book)
        self.assertEqual(told(twin), before)
        self.assertEqual(twin.put(["zz"], (0,)), 2)
        twin.rename(0, 1, "c")
        self.assertEqual(told(book), before)
        after = told(twin)
        self.assertEqual([book.back(), book.back(), book.back(), book.back()], ["drop", "put", "put", None])
        self.assertEqual(told(twin), after)
        words = [twin.back() for _ in range(6)]
        self.assertEqual(words, ["rename", "put", "drop", "put", "put", None])
        self.assertEqual(told(twin), told(Book()))

    def test_has_the_next_number(self):
        book = Book()
        book.put(["a"], (0,))
        book.drop(0)
        twin = book.twin()
        self.assertEqual((book.put(["b"], (0,)), twin.put(["c"], (0,))), (1, 1))
        self.assertEqual(twin.entries(), [(1, ("c",), (0,))])


class ManyChangesTest(unittest.TestCase):
    def change(self, chance, book, number_next):
        """One deed by chance, its word told, None where it was refused."""
        numbers = [number for number, _, _ in book.entries()]
        deed = chance.choice(["put", "put", "drop", "rehang", "rehang", "rename"])
        if deed == "put" or not numbers:
            n = chance.randint(1, 12)
            words = [chance.choice(NAMES) for _ in range(n)]
            self.assertEqual(book.put(words, some_hanging(chance.random(), n)), number_next)
            return "put"
        number = chance.choice(numbers)
        n = len(book.entries()[numbers.index(number)][1])
        try:
            if deed == "drop":
                book.drop(number)
            elif deed == "rehang":
                book.rehang(number, chance.randint(1, n), chance.randint(0, n))
            else:
                book.rename(number, chance.randint(1, n), chance.choice(NAMES))
        except NoHanging:
            return None
        return deed

    def test_against_what_was_told_before(self):
        for seed in range(4):
            chance = random.Random(seed)
            book = Book()
            past = []
            number_next = 0
            for _ in range(200):
                if chance.randrange(4) == 0:
                    due = past.pop() if past else (None, told(book), number_next)
                    self.assertEqual(book.back(), due[0])
                    self.assertEqual(told(book), due[1])
                    number_next = due[2]
                else:
                    before = told(book)
                    deed = self.change(chance, book, number_next)
                    if deed is None:
                        self.assertEqual(told(book), before)
                    else:
                        past.append((deed, before, number_next))
                        number_next += deed == "put"
            self.checked(book)

    def checked(self, book):
        self.assertEqual(told(put_anew(book))[1:], told(book)[1:])
        self.assertTrue(is_table(book.table_for(NAMES)))
        self.assertTrue(is_factors(book.factors_for(NAMES)))
        for name in NAMES:
            for on in [""] + NAMES:
                self.assertEqual(book.often(name, on), counted(book, name, on))
