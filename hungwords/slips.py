"""What can still be come to from a stand of a reader, and what a slip costs.

A hanging can be come to just where it's plain and each word hangs on one of those that the stand allows it. So the
best one still to be had is the best plain one of the table that holds no other entries.
"""

from hungwords.errors import NoStep
from hungwords.reading import behind, steps_from
from hungwords.spans import best_plain
from hungwords.steps import stands_along


def allowed(stand):
    """The list with, for each word, the rising list of those on which it may hang in the end."""
    return [allowed_of(stand, word) for word in range(1, len(stand[2]) + 1)]


def allowed_of(stand, word):
    """The rising list of those on which that word may hang in the end."""
    pile, ahead, ons = stand
    if ons[word - 1] is not None:
        return [ons[word - 1]]
    bottomed = (0,) + pile
    coming = list(range(ahead, len(ons) + 1))
    if word in pile:
        return [bottomed[pile.index(word)]] + coming
    return list(bottomed) + [other for other in coming if other != word]


def kept_to(w, lists):
    """The table with None for all entries but those for which the lists have, for each word, the on."""
    return tuple([
        tuple([worth if on in ons else None for on, worth in enumerate(row)]) for row, ons in zip(w, lists)
    ])


def best_still(w, stand):
    """The pair (worth, h) of the best hanging that can be come to, of several the least; None where there is none."""
    return best_plain(kept_to(w, allowed(stand)))


def still(w, stand):
    """The greatest worth of a hanging that may be and can be come to; None where there is none."""
    best = best_still(w, stand)
    return None if best is None else best[0]


def cost(w, stand, step):
    """What the best still to be had loses by a step, None where there is none; refused with NoStep(0)."""
    if step not in steps_from(stand):
        raise NoStep(0)
    return lost(still(w, stand), still(w, behind(stand, step)))


def lost(before, after):
    """By how much a worth is above another one, None where either is None."""
    if before is None or after is None:
        return None
    return before - after


def slips(w, steps):
    """The list of the costs of all steps, from the first stand on; refused with NoStep, as led."""
    worths = [still(w, stand) for stand in stands_along(len(w), steps)]
    return [lost(before, after) for before, after in zip(worths, worths[1:])]


def sure_steps(w, stand):
    """The list of the steps that can be done and cost 0."""
    return [step for step in steps_from(stand) if cost(w, stand, step) == 0]
