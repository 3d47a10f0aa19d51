"""The first so many of all hangings, those of more worth ahead."""

from hungwords.anybest import best_any
from hungwords.several import first_by, lead_of


def first_any(w, many):
    """The list of the pairs (worth, h) of the first so many, more worth ahead, like ones rising."""
    return first_by(best_any, w, many)


def lead_any(w):
    """By how much the first one's worth is above the second one's; None where there are fewer than two."""
    return lead_of(first_any(w, 2))
