"""Factor tables, and the sums of the products of all hangings and of all plain ones."""

from hungwords.checks import is_laid_out, is_number
from hungwords.spans import over_all
from hungwords.worths import with_row


def is_factors(thing):
    """Whether thing is a factor table, of any size."""
    if not is_laid_out(thing):
        return False
    return all([is_factor_row(row, word) for word, row in enumerate(thing, start=1)])


def is_factor_row(row, word):
    """Whether a tuple of as many entries as are due is the row of that word."""
    return all([is_number(factor) and factor >= 0 for factor in row]) and row[word] == 0


def product(f, h):
    """The factors of all words of h multiplied."""
    return multiplied([row[on] for row, on in zip(f, h)])


def multiplied(factors):
    """The product of a list of numbers, 1 where there is none."""
    result = 1
    for factor in factors:
        result *= factor
    return result


def added(products):
    """The sum of a list of numbers."""
    return sum(products)


def sum_plain(f):
    """The sum of the products of all plain hangings."""
    return over_all(f, multiplied, added)


def sum_any(f):
    """The sum of the products of all hangings, by the theorem of trees and determinants.

    Word i has a row: what it has for each other word with a minus, what it has for all of them at its own place. The
    determinant without word t's row and column is the sum for t as the top. With all words' entries for 0 in place of
    the first column it is the sum for all tops: a row's numbers sum to 0, so its minors are alike but for their signs.
    """
    rows = []
    for word, row in enumerate(f, start=1):
        numbers = [-factor for factor in row]
        numbers[word] = sum(row[1:])
        numbers[1] = row[0]
        rows.append(numbers[1:])
    return determinant(rows)


def determinant(rows):
    """The determinant of a list of lists of numbers, which are used up, in whole numbers alone."""
    sign = 1
    before = 1
    for at in range(len(rows)):
        places = [place for place in range(at, len(rows)) if rows[place][at] != 0]
        if not places:
            return 0
        if places[0] != at:
            rows[at], rows[places[0]] = rows[places[0]], rows[at]
            sign = -sign
        for place in range(at + 1, len(rows)):
            rows[place] = cleared(rows[place], rows[at], at, before)
        before = rows[at][at]
    return sign * before


def cleared(row, lead, at, before):
    """A row with 0 at a place, by taking the leading one off; what comes of it has before as a divisor."""
    return [(number * lead[at] - row[at] * other) // before for number, other in zip(row, lead)]


def only(f, word, on):
    """The factor table with 0 for all other entries of that word."""
    row = [factor if at == on else 0 for at, factor in enumerate(f[word - 1])]
    return with_row(f, word, tuple(row))
