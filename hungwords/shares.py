"""What the hangings with a tie have of the sum of all, in exact parts."""

from hungwords.errors import NoSum
from hungwords.sums import only, sum_any, sum_plain


def shares_any(f):
    """The list with, for each word, the list of the parts that each on has, of all hangings; refused with NoSum."""
    return shares(f, sum_any)


def shares_plain(f):
    """The same of all plain hangings."""
    return shares(f, sum_plain)


def share_any(f, word, on):
    """The part that the hangings with this word on this one have of all; refused with NoSum."""
    return part(sum_any(only(f, word, on)), whole(f, sum_any))


def share_plain(f, word, on):
    """The same of all plain hangings."""
    return part(sum_plain(only(f, word, on)), whole(f, sum_plain))


def shares(f, sum_of):
    """The lists of all parts, by the sum that is handed in."""
    below = whole(f, sum_of)
    return [
        [part(sum_of(only(f, word, on)), below) for on in range(len(f) + 1)] for word in range(1, len(f) + 1)
    ]


def whole(f, sum_of):
    """The sum of which parts are told; refused with NoSum where it is 0."""
    below = sum_of(f)
    if below == 0:
        raise NoSum("the sum of all products is nought")
    return below


def part(above, below):
    """The fraction without a common divisor."""
    divisor, rest = below, above
    while rest > 0:
        divisor, rest = rest, divisor % rest
    return above // divisor, below // divisor
