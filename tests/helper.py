"""What several tests need: all hangings gone through, tables by a fixed seed, things of wrong kinds."""

import itertools
import random

WRONG_NUMBERS = [True, False, "", "1", "a", [], (), [1], (1,), [[1]], ((0,),), (None,), ((((((((1,),),),),),),),)]
WRONG_THINGS = [
    None, True, False, 0, 1, -1, 10 ** 30, "", "0", "abc", "(0,)", [], (), [[]], ((),), [()], ([],), (None,),
    ((((((((((),),),),),),),),),), [[[[[[[[[[0]]]]]]]]]],
]


def comes_to_none(ons, word):
    """By the words of the document: whether the way up from word comes to the top, in so many steps."""
    for _ in ons:
        if ons[word - 1] == 0:
            return True
        word = ons[word - 1]
    return False


def hangings_gone_through(n):
    """The rising list of all hangings of n words."""
    return [
        ons for ons in itertools.product(range(n + 1), repeat=n)
        if ons.count(0) == 1 and all(comes_to_none(ons, word) for word in range(1, n + 1))
    ]


def in_order(w):
    """All pairs (worth, h) that may be, those of more worth ahead, like ones rising."""
    pairs = []
    for h in hangings_gone_through(len(w)):
        worths = [w[at][on] for at, on in enumerate(h)]
        if None not in worths:
            pairs.append((sum(worths), h))
    return sorted(pairs, key=lambda pair: (-pair[0], pair[1]))


def some_table(seed, n, low, high, barred):
    """A worth table by a seed, with worths from low to high, about so many of a hundred entries None."""
    chance = random.Random(seed)
    rows = []
    for word in range(1, n + 1):
        row = [None if chance.randrange(100) < barred else chance.randint(low, high) for _ in range(n + 1)]
        row[word] = None
        rows.append(tuple(row))
    return tuple(rows)


def even_table(n, worth):
    """The worth table of n words with one worth for all entries but own ones."""
    return tuple(
        tuple(None if on == word else worth for on in range(n + 1)) for word in range(1, n + 1)
    )


def some_hanging(seed, n):
    """A hanging of n words by a seed."""
    chance = random.Random(seed)
    words = list(range(1, n + 1))
    chance.shuffle(words)
    ons = [0] * n
    for at in range(1, n):
        ons[words[at] - 1] = words[chance.randrange(at)]
    return tuple(ons)


def put_at(thing, way, new):
    """A thing of lists and tuples with another one at a place, told by the way down to it."""
    if not way:
        return new
    parts = list(thing)
    parts[way[0]] = put_at(parts[way[0]], way[1:], new)
    return type(thing)(parts)


def ways_down(thing):
    """The ways to all places of a thing of lists and tuples, to itself too."""
    ways = [()]
    if isinstance(thing, (list, tuple)):
        for at, part in enumerate(thing):
            ways += [(at,) + way for way in ways_down(part)]
    return ways


def at_way(thing, way):
    """What stands at a place."""
    for at in way:
        thing = thing[at]
    return thing


def other_kind(thing):
    """A tuple for a list, a list for a tuple."""
    return tuple(thing) if isinstance(thing, list) else list(thing)


def tie_by_words(h, word):
    """A word's tie, by the words of the document."""
    on = h[word - 1]
    return (word, on) if word < on else (on, word)


def crossings_gone_through(h):
    """The rising list of all pairs of ties that cross, by the words of the document."""
    ties = [tie_by_words(h, word) for word in range(1, len(h) + 1)]
    return sorted(
        ((a, b), (c, d)) for (a, b), (c, d) in itertools.product(ties, repeat=2) if a < c < b < d
    )


def plain_gone_through(n):
    """The rising list of all plain hangings of n words."""
    return [h for h in hangings_gone_through(n) if not crossings_gone_through(h)]


def some_factors(seed, n, high, noughts):
    """A factor table by a seed, with factors to high, about so many of a hundred entries 0."""
    table = some_table(seed, n, 1, high, noughts)
    return tuple(tuple(0 if factor is None else factor for factor in row) for row in table)


def even_factors(n, factor):
    """The factor table of n words with one factor for all entries but own ones."""
    return tuple(tuple(0 if on == word else factor for on in range(n + 1)) for word in range(1, n + 1))


def multiplied_out(f, h):
    """The product of the factors of all words of h."""
    result = 1
    for at, on in enumerate(h):
        result *= f[at][on]
    return result


def some_plain(seed, n):
    """A plain hanging of n words by a seed: each stretch has a top, and its rest falls apart into stretches."""
    chance = random.Random(seed)
    ons = [0] * n
    waiting = [(1, n, 0)]
    while waiting:
        low, high, on = waiting.pop()
        if low <= high:
            top = chance.randint(low, high)
            ons[top - 1] = on
            at, to = chance.randint(low, top), chance.randint(top, high)
            waiting += [(low, at - 1, top), (at, top - 1, top), (top + 1, to, top), (to + 1, high, top)]
    return tuple(ons)
