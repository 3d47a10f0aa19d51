"""All hangings of few words, all plain ones, and how many there are."""

from hungwords.plain import cross, tie, ties


def all_hangings(n):
    """The rising list of all hangings of n words."""
    return grown(n, fits)


def all_plain(n):
    """The rising list of all plain hangings of n words."""
    return grown(n, fits_plain)


def grown(n, may_follow):
    """The rising list of all tuples of n numbers from 0 to n, each of which may follow those ahead of it."""
    starts = [()]
    for word in range(n):
        starts = [start + (on,) for start in starts for on in range(n + 1) if may_follow(start, on)]
    return starts


def fits(start, on):
    """Whether the word behind a hanging's first ones may hang on that one, too: no ring comes, no second top."""
    word = len(start) + 1
    if on == 0:
        return 0 not in start
    at = on
    while 0 < at < word:
        at = start[at - 1]
    return at != word


def fits_plain(start, on):
    """Whether it may, and its tie crosses none of those ahead."""
    if not fits(start, on):
        return False
    new = tie(len(start) + 1, on)
    return not any([cross(new, old) or cross(old, new) for old in ties(start)])


def hangings_many(n):
    """How many hangings of n words there are: n to the power of n - 1."""
    many = 1
    for word in range(n - 1):
        many *= n
    return many


def plain_many(n):
    """How many plain hangings of n words there are: an n-th of the ways to take n - 1 out of 3 * n - 2."""
    many = 1
    for taken in range(1, n):
        many = many * (2 * n - 1 + taken) // taken
    return many // n


def next_plain(h):
    """The plain hanging that comes next behind h, None behind the last."""
    start = h[:-1]
    low = h[-1] + 1
    while len(start) < len(h):
        ons = [on for on in range(low, len(h) + 1) if fits_plain(start, on)]
        if ons:
            start += (ons[0],)
            low = 0
        elif start:
            # Nothing more begins so: its last word is to hang on a greater one.
            low = start[-1] + 1
            start = start[:-1]
        else:
            return None
    return start
