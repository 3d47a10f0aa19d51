"""A small checker of papers: whether one shows that no hanging is of more worth."""

from hungwords.checks import is_number
from hungwords.worths import worth_of


def shows_best_any(w, h, thing):
    """Whether thing is a paper that shows that no hanging is of more worth than h, one that may be."""
    if not is_paper(thing, len(w)):
        return False
    hook, words, sets = thing
    if hook + sum(words) - sum([price for some, price in sets]) != worth_of(w, h):
        return False
    for word, row in enumerate(w, start=1):
        for on, worth in enumerate(row):
            if worth is not None and worth > bound(thing, word, on):
                return False
    return True


def bound(paper, word, on):
    """The most that the paper allows for the worth of word on that one."""
    hook, words, sets = paper
    most = words[word - 1] + (hook if on == 0 else 0)
    return most - sum([price for some, price in sets if word in some and on not in some])


def is_paper(thing, many):
    """Whether thing is a paper for so many words."""
    if not isinstance(thing, tuple) or len(thing) != 3:
        return False
    hook, words, sets = thing
    return is_number(hook) and are_numbers(words, many) and are_sets(sets, many)


def are_numbers(thing, many):
    """Whether thing is a list of so many numbers."""
    return isinstance(thing, list) and len(thing) == many and all([is_number(part) for part in thing])


def are_sets(thing, many):
    """Whether thing is a list of pairs (some, price), no some twice."""
    if not isinstance(thing, list):
        return False
    seen = set()
    for pair in thing:
        if not is_priced(pair, many) or pair[0] in seen:
            return False
        seen.add(pair[0])
    return True


def is_priced(thing, many):
    """Whether thing is a pair of a set of words and its price, 0 or more."""
    if not isinstance(thing, tuple) or len(thing) != 2:
        return False
    some, price = thing
    return is_some(some, many) and is_number(price) and price >= 0


def is_some(thing, many):
    """Whether thing is a rising tuple of two words or more."""
    if not isinstance(thing, tuple) or len(thing) < 2:
        return False
    last = 0
    for word in thing:
        if not is_number(word) or word <= last or word > many:
            return False
        last = word
    return True
