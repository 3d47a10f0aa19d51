"""Ties of a hanging, those of them that cross, and what is plain: a hanging without crossings."""

from hungwords.hangings import all_under


def tie(word, on):
    """The pair of a word and the one on which it hangs, the lesser first."""
    return min(word, on), max(word, on)


def cross(first, second):
    """Whether the first tie begins ahead of the second one, and ends within it."""
    return first[0] < second[0] < first[1] < second[1]


def ties(h):
    """The rising list of all ties."""
    return sorted([tie(word, on) for word, on in enumerate(h, start=1)])


def crossings(h):
    """The rising list of all pairs of ties that cross."""
    found = ties(h)
    return [(first, second) for first in found for second in found if cross(first, second)]


def is_plain(h):
    """Whether no ties of h cross."""
    return not crossings(h)


def stretch(h, word):
    """The pair of the least and the greatest word of all that are under word, itself too."""
    under = all_under(h, word)
    return under[0], under[-1]


def gappy(h):
    """The rising list of the words of whose stretch some word isn't under them."""
    return [word for word in range(1, len(h) + 1) if has_gap(h, word)]


def has_gap(h, word):
    """Whether some word of the stretch of word isn't under it."""
    low, high = stretch(h, word)
    return len(all_under(h, word)) < high - low + 1


def turned(h):
    """The hanging of the words in the other order."""
    return tuple([len(h) + 1 - on if on > 0 else 0 for on in reversed(h)])
