"""Worth tables: what it is worth that a word hangs on another one, None where it may not."""

from hungwords.checks import is_laid_out, is_number


def is_table(thing):
    """Whether thing is a worth table, of any many words, with numbers of any size."""
    if not is_laid_out(thing):
        return False
    return all([is_row(row, word) for word, row in enumerate(thing, start=1)])


def is_row(row, word):
    """Whether a tuple of as many entries as are due is the row of that word."""
    return row[word] is None and all([entry is None or is_number(entry) for entry in row])


def together(worths):
    """The sum of a list of worths, None where one of them is None."""
    if None in worths:
        return None
    return sum(worths)


def greatest(worths):
    """The greatest of a list of worths, None being less than all numbers; None where there is none."""
    return max([worth for worth in worths if worth is not None], default=None)


def worth_of(w, h):
    """The worths of all words of h together, None where one may not hang so."""
    return together([row[on] for row, on in zip(w, h)])


def without(w, word, on):
    """The table with None for that word on that one."""
    return with_entry(w, word, on, None)


def alone(w, word, on):
    """The table with None for all other entries of that word."""
    row = [entry if at == on else None for at, entry in enumerate(w[word - 1])]
    return with_row(w, word, tuple(row))


def with_entry(w, word, on, entry):
    """The table with another entry for that word on that one."""
    row = w[word - 1]
    return with_row(w, word, row[:on] + (entry,) + row[on + 1:])


def with_row(w, word, row):
    """The table with another row for that word."""
    return w[:word - 1] + (row,) + w[word:]


def ranked(w):
    """A table by which, of hangings of like worth, the lesser one is of more worth.

    The hanging, read as a number by its figures, is taken off; worths are spread so far that it outweighs none.
    """
    scale = units(len(w) + 1, len(w))
    return tuple([
        tuple([None if worth is None else worth * scale[0] - on * scale[word] for on, worth in enumerate(row)])
        for word, row in enumerate(w, start=1)
    ])


def units(base, many):
    """The list of what 1 is worth at each place of a number of so many figures, ahead of them at one place more."""
    scale = [1]
    for place in range(many):
        scale.append(scale[-1] * base)
    scale.reverse()
    return scale


def figures(number, base, many):
    """The list of the last so many figures of a number, the highest first.

    What lies ahead of these doesn't count, a minus neither: taking off a number of which they are noughts is the same.
    """
    found = []
    for place in range(many):
        number, figure = divmod(number, base)
        found.append(figure)
    found.reverse()
    return found
