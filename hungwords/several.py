"""The first so many of all plain hangings, those of more worth ahead."""

from hungwords.spans import best_plain
from hungwords.worths import alone, without


def first_plain(w, many):
    """The list of the pairs (worth, h) of the first so many, more worth ahead, like ones rising."""
    return first_by(best_plain, w, many)


def lead_plain(w):
    """By how much the first one's worth is above the second one's; None where there are fewer than two."""
    return lead_of(first_plain(w, 2))


def first_by(best_of, w, many):
    """The list of the first so many hangings of the sort whose best one, of a table, best_of tells."""
    told = []
    # No two of these tables have a hanging in common, and all that isn't told yet is in one of them.
    waiting = bests_of(best_of, [w])
    while waiting and len(told) < many:
        worth, h, table = waiting[0]
        told.append((worth, h))
        # What comes behind the last one asked for needn't be known.
        parts = parted(table, h) if len(told) < many else []
        waiting = sorted(waiting[1:] + bests_of(best_of, parts), key=rank)
    return told


def lead_of(told):
    """By how much the worth of the first of the told pairs is above the second one's; None if they are fewer."""
    if len(told) < 2:
        return None
    return told[0][0] - told[1][0]


def bests_of(best_of, tables):
    """The list of the tuples (worth, h, table) of the best of each table that has one."""
    bests = []
    for table in tables:
        best = best_of(table)
        if best is not None:
            bests.append(best + (table,))
    return bests


def rank(best):
    """What the first so many stand in order by."""
    return -best[0], best[1]


def parted(w, h):
    """Tables that have all hangings of w but h between them: the first word that hangs otherwise parts them."""
    parts = []
    held = w
    for word, on in enumerate(h, start=1):
        parts.append(without(held, word, on))
        held = alone(held, word, on)
    return parts
