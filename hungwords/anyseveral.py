"""The first so many of all hangings, those of more worth ahead."""

from hungwords.anybest import best_any
from hungwords.worths import alone, without


def first_any(w, many):
    """The list of the pairs (worth, h) of the first so many, more worth ahead, like ones rising."""
    told = []
    # No two of these tables have a hanging in common, and all that isn't told yet is in one of them.
    waiting = bests_of([w])
    while waiting and len(told) < many:
        worth, h, table = waiting[0]
        told.append((worth, h))
        # What comes behind the last one asked for needn't be known.
        parts = parted(table, h) if len(told) < many else []
        waiting = sorted(waiting[1:] + bests_of(parts), key=rank)
    return told


def lead_any(w):
    """By how much the first one's worth is above the second one's; None where there are fewer than two."""
    told = first_any(w, 2)
    if len(told) < 2:
        return None
    return told[0][0] - told[1][0]


def bests_of(tables):
    """The list of the tuples (worth, h, table) of the best of each table that has one."""
    bests = []
    for table in tables:
        best = best_any(table)
        if best is not None:
            bests.append(best + (table,))
    return bests


def rank(best):
    """What the first so many stand in order by."""
    return -best[0], best[1]


def parted(w, h):
    """Tables that have all hangings of w but h between them: the first word that hangs otherwise parts them."""
    parts = []
    held = w
    for word, on in enumerate(h, start=1):
        parts.append(without(held, word, on))
        held = alone(held, word, on)
    return parts
