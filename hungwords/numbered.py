"""Hangings by numbers: in rising order, each with as many numbers as its product."""

from hungwords.errors import NoSum
from hungwords.sums import only, sum_any, sum_plain
from hungwords.worths import with_row


def at_any(f, number):
    """The hanging whose number it is, of all; refused with NoSum where the number is the sum or more."""
    return numbered(f, number, sum_any)


def at_plain(f, number):
    """The same of all plain hangings."""
    return numbered(f, number, sum_plain)


def ahead_any(f, h):
    """The sum of the products of all lesser hangings."""
    return ahead(f, h, sum_any)


def ahead_plain(f, h):
    """The sum of the products of all lesser plain hangings."""
    return ahead(f, h, sum_plain)


def numbered(f, number, sum_of):
    """The hanging of a number, by the sum that is handed in, word for word; refused with NoSum."""
    held = f
    left = number
    ons = []
    for word in range(1, len(f) + 1):
        on, left = on_at(held, word, left, sum_of)
        ons.append(on)
        held = only(held, word, on)
    return tuple(ons)


def on_at(f, word, number, sum_of):
    """The pair of the one on which the word hangs at that number, and the number among the hangings with that tie."""
    left = number
    for on in range(len(f) + 1):
        many = sum_of(only(f, word, on))
        if left < many:
            return on, left
        left -= many
    # What a word has on all of them together is the sum, so that this is met at the first word or never.
    raise NoSum("the number isn't below the sum of all products")


def ahead(f, h, sum_of):
    """The sum of the products of all lesser ones: each has a first word that hangs on a lesser one than in h."""
    total = 0
    held = f
    for word, on in enumerate(h, start=1):
        row = held[word - 1]
        total += sum_of(with_row(held, word, row[:on] + (0,) * (len(row) - on)))
        held = only(held, word, on)
    return total
