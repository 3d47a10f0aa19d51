"""Hangings: tuples that tell of each word on which one it hangs, 0 of the top."""

from hungwords.checks import is_number
from hungwords.errors import NoHanging


def is_hanging(thing):
    """Whether thing is a hanging, of any many words."""
    if not isinstance(thing, tuple):
        return False
    for on in thing:
        if not is_number(on) or on < 0 or on > len(thing):
            return False
    # A ring is never under the top, so its words are missed where one stands beside it.
    return thing.count(0) == 1 and len(all_under(thing, top(thing))) == len(thing)


def top(h):
    """The word that hangs on none."""
    return h.index(0) + 1


def hung_on(h, word):
    """The rising list of the words that hang on word, which may be 0."""
    return [at for at, on in enumerate(h, start=1) if on == word]


def lists_of_hung(h):
    """The list with, for 0 and each word, the rising list of the words that hang on it."""
    lists = [[] for at in range(len(h) + 1)]
    for at, on in enumerate(h, start=1):
        lists[on].append(at)
    return lists


def all_under(h, word):
    """The rising list of the word and all from which the way up comes to it."""
    below = lists_of_hung(h)
    found = []
    waiting = [word]
    while waiting:
        at = waiting.pop()
        found.append(at)
        waiting.extend(below[at])
    return sorted(found)


def way_up(h, word):
    """The list of the words from the word to the top."""
    way = [word]
    while h[way[-1] - 1] != 0:
        way.append(h[way[-1] - 1])
    return way


def depth(h):
    """The most words of a way up."""
    below = lists_of_hung(h)
    level = below[0]
    many = 0
    while level:
        many += 1
        level = [under for word in level for under in below[word]]
    return many


def rehung(h, word, on):
    """h, but that word hangs on another one; refused with NoHanging where that is none."""
    changed = h[:word - 1] + (on,) + h[word:]
    if not is_hanging(changed):
        raise NoHanging("a word so hung makes no hanging")
    return changed
