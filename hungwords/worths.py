"""Worth tables: what it is worth that a word hangs on another one, None where it may not."""

from hungwords.checks import is_number


def is_table(thing):
    """Whether thing is a worth table, of any many words, with numbers of any size."""
    if not isinstance(thing, tuple) or len(thing) == 0:
        return False
    for word, row in enumerate(thing, start=1):
        if not is_row(row, word, len(thing)):
            return False
    return True


def is_row(thing, word, many):
    """Whether thing is the row of a word in a worth table of so many words."""
    if not isinstance(thing, tuple) or len(thing) != many + 1:
        return False
    for entry in thing:
        if entry is not None and not is_number(entry):
            return False
    return thing[word] is None


def worth_of(w, h):
    """The worths of all words of h together, None where one may not hang so."""
    worths = [row[on] for row, on in zip(w, h)]
    if None in worths:
        return None
    return sum(worths)


def without(w, word, on):
    """The table with None for that word on that one."""
    row = w[word - 1]
    return with_row(w, word, row[:on] + (None,) + row[on + 1:])


def alone(w, word, on):
    """The table with None for all other entries of that word."""
    row = [entry if at == on else None for at, entry in enumerate(w[word - 1])]
    return with_row(w, word, tuple(row))


def with_row(w, word, row):
    """The table with another row for that word."""
    return w[:word - 1] + (row,) + w[word:]
