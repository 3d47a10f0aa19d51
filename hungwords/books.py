"""Books of told hangings that are changed, and whose changes are taken back."""

from hungwords.errors import NoEntry
from hungwords.hangings import rehung


class Book:
    """Entries by their numbers, each the words of a row and their hanging, and all changes that stand."""

    def __init__(self):
        self.kept = {}
        self.past = []
        self.following = 0

    def put(self, words, h):
        """Takes an entry in and tells its number."""
        number = self.following
        self.note("put", number)
        self.kept[number] = (tuple(words), h)
        self.following = number + 1
        return number

    def drop(self, number):
        """Lets an entry go; refused with NoEntry."""
        self.entry(number)
        self.note("drop", number)
        del self.kept[number]

    def rehang(self, number, word, on):
        """Hangs a word of an entry on another one; refused with NoEntry, then with NoHanging."""
        words, h = self.entry(number)
        changed = rehung(h, word, on)
        self.note("rehang", number)
        self.kept[number] = (words, changed)

    def rename(self, number, word, name):
        """Calls a word of an entry otherwise; refused with NoEntry."""
        words, h = self.entry(number)
        self.note("rename", number)
        self.kept[number] = (words[:word - 1] + (name,) + words[word:], h)

    def back(self):
        """Takes the last change back and tells its word, None where there is none."""
        if not self.past:
            return None
        deed, number, before = self.past.pop()
        if before is None:
            # Ahead of a put alone there is no entry of its number, and that number is the next one again.
            del self.kept[number]
            self.following = number
        else:
            self.kept[number] = before
        return deed

    def entries(self):
        """The rising list of tuples (number, words, h)."""
        return [(number, words, h) for number, (words, h) in sorted(self.kept.items())]

    def often(self, name, on):
        """How many words called name hang on one called on, on none where on is the empty text."""
        return self.counted().get((name, on), 0)

    def names(self):
        """The rising list of all names."""
        return sorted({name for words, h in self.kept.values() for name in words})

    def table_for(self, words):
        """The worth table of these words: how often the one's name hangs on the other's."""
        return self.rows_for(words, None, 0)

    def factors_for(self, words):
        """The factor table of these words: one more than in the worth table."""
        return self.rows_for(words, 0, 1)

    def twin(self):
        """A Book of its own that is the same, all changes with it."""
        other = Book()
        other.kept = dict(self.kept)
        other.past = list(self.past)
        other.following = self.following
        return other

    def entry(self, number):
        """The pair of an entry's words and hanging; refused with NoEntry."""
        if number not in self.kept:
            raise NoEntry(f"there is no entry {number}")
        return self.kept[number]

    def note(self, deed, number):
        """Keeps what a change needs to be taken back, so it's called ahead of that change."""
        self.past.append((deed, number, self.kept.get(number)))

    def counted(self):
        """The dict of how often a word of one name hangs on one of another, by both names, the empty text for none."""
        many = {}
        for words, h in self.kept.values():
            for name, on in zip(words, h):
                pair = (name, words[on - 1] if on > 0 else "")
                many[pair] = many.get(pair, 0) + 1
        return many

    def rows_for(self, words, own, more):
        """The rows of a table for these words, own for own entries, all others so much more than counted."""
        many = self.counted()
        called = [""] + list(words)
        rows = []
        for word in range(1, len(called)):
            counts = [many.get((called[word], name), 0) + more for name in called]
            counts[word] = own
            rows.append(tuple(counts))
        return tuple(rows)
