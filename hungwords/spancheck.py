"""A small checker of spans: whether they show that no plain hanging is of more worth."""

from hungwords.checks import is_number, is_tuple_of
from hungwords.worths import greatest, together, worth_of


def shows_best_plain(w, h, thing):
    """Whether thing is a list of spans that shows that no plain hanging is of more worth than h, one that may be."""
    if not are_spans(thing, len(w)):
        return False
    told = by_pairs(thing, len(w))
    if not is_no_less(worth_of(w, h), over_tops(w, told)):
        return False
    return all([tied_hold(w, told, low, high) and free_hold(told, low, high) for low, high in all_pairs(len(w))])


def are_spans(thing, many):
    """Whether thing is a list of spans of just all pairs of so many words, in their order."""
    pairs = all_pairs(many)
    if not isinstance(thing, list) or len(thing) != len(pairs):
        return False
    return all([is_span(row, low, high) for row, (low, high) in zip(thing, pairs)])


def all_pairs(many):
    """The rising list of all pairs of words, the lesser first."""
    return [(low, high) for low in range(1, many + 1) for high in range(low + 1, many + 1)]


def is_span(thing, low, high):
    """Whether thing is a tuple of these two words and four worths."""
    if not is_tuple_of(thing, 6) or not is_number(thing[0]) or not is_number(thing[1]):
        return False
    return thing[:2] == (low, high) and all([worth is None or is_number(worth) for worth in thing[2:]])


def by_pairs(spans, many):
    """The tuple of four dicts by pairs of words: right, right_tied, left, left_tied."""
    right = {(word, word): 0 for word in range(1, many + 1)}
    left = dict(right)
    right_tied = {}
    left_tied = {}
    for low, high, under_low, on_low, under_high, on_high in spans:
        right[(low, high)] = under_low
        right_tied[(low, high)] = on_low
        left[(low, high)] = under_high
        left_tied[(low, high)] = on_high
    return right, right_tied, left, left_tied


def is_no_less(worth, others):
    """Whether a worth is no less than each of the others, None being less than all numbers, and no less than None."""
    most = greatest(others)
    return most is None or worth is not None and worth >= most


def over_tops(w, told):
    """The list of what is told, for each word, of all plain hangings with this top."""
    right, right_tied, left, left_tied = told
    return [together([row[0], left[(1, top)], right[(top, len(w))]]) for top, row in enumerate(w, start=1)]


def tied_hold(w, told, low, high):
    """Whether both worths with the one end hung on the other are no less than all that they may be made of."""
    right, right_tied, left, left_tied = told
    inner = [together([right[(low, at)], left[(at + 1, high)]]) for at in range(low, high)]
    on_low = [together([w[high - 1][low], part]) for part in inner]
    on_high = [together([w[low - 1][high], part]) for part in inner]
    return is_no_less(right_tied[(low, high)], on_low) and is_no_less(left_tied[(low, high)], on_high)


def free_hold(told, low, high):
    """Whether the two other worths are no less than all that they may be made of."""
    right, right_tied, left, left_tied = told
    under_low = [together([right_tied[(low, at)], right[(at, high)]]) for at in range(low + 1, high + 1)]
    under_high = [together([left[(low, at)], left_tied[(at, high)]]) for at in range(low, high)]
    return is_no_less(right[(low, high)], under_low) and is_no_less(left[(low, high)], under_high)
