"""Tables of spans: what is told of words i to j comes of what is told of fewer words.

How parts are joined, and what is made of all ways, is handed in: worths are added and the greatest is taken, factors
are multiplied and summed. Each way to hang the words comes about just once, so that it counts once in a sum.
"""

from hungwords.worths import figures, greatest, ranked, together, worth_of


def spans(w):
    """The rising list of the tuples (i, j, right, right_tied, left, left_tied) of all words i < j."""
    right, right_tied, left, left_tied = fill(w, together, greatest)
    return [pair + (right[pair], right_tied[pair], left[pair], left_tied[pair]) for pair in sorted(right_tied)]


def best_plain(w):
    """The pair (worth, h) of the plain hanging of the greatest worth, of several the least; None where none may be."""
    total = over_all(ranked(w), together, greatest)
    if total is None:
        return None
    # What was taken off the worths, to rank like ones, are the figures of the hanging itself.
    h = tuple(figures(-total, len(w) + 1, len(w)))
    return worth_of(w, h), h


def fill(w, joined, chosen):
    """The tuple of four dicts by pairs of words, the lesser first: right, right_tied, left, left_tied."""
    right = {(word, word): joined([]) for word in range(1, len(w) + 1)}
    left = dict(right)
    right_tied = {}
    left_tied = {}
    for low, high in by_width(len(w)):
        inner = chosen([joined([right[(low, at)], left[(at + 1, high)]]) for at in range(low, high)])
        right_tied[(low, high)] = joined([w[high - 1][low], inner])
        left_tied[(low, high)] = joined([w[low - 1][high], inner])
        right[(low, high)] = chosen([
            joined([right_tied[(low, at)], right[(at, high)]]) for at in range(low + 1, high + 1)
        ])
        left[(low, high)] = chosen([joined([left[(low, at)], left_tied[(at, high)]]) for at in range(low, high)])
    return right, right_tied, left, left_tied


def by_width(n):
    """The list of all pairs of n words, those of words nearer to one another ahead."""
    return [(low, low + width) for width in range(1, n) for low in range(1, n - width + 1)]


def over_all(w, joined, chosen):
    """What is made of all plain hangings."""
    right, right_tied, left, left_tied = fill(w, joined, chosen)
    return chosen([
        joined([row[0], left[(1, top)], right[(top, len(w))]]) for top, row in enumerate(w, start=1)
    ])
