"""What several tests need: all hangings gone through, tables by a fixed seed, things of wrong kinds."""

import itertools
import random

STEPS = ["read", "next", "under"]
OTHER_STEPS = [
    "", "Read", "READ", " read", "read ", "nex", "nextt", "back", "unde", "reads", "read\n", "ready", "0",
]
WRONG_NUMBERS = [True, False, "", "1", "a", [], (), [1], (1,), [[1]], ((0,),), (None,), ((((((((1,),),),),),),),)]
WRONG_THINGS = [
    None, True, False, 0, 1, -1, 10 ** 30, "", "0", "abc", "(0,)", [], (), [[]], ((),), [()], ([],), (None,),
    ((((((((((),),),),),),),),),), [[[[[[[[[[0]]]]]]]]]],
]


def comes_to_none(ons, word):
    """By the words of the document: whether the way up from word comes to the top, in so many steps."""
    for _ in ons:
        if ons[word - 1] == 0:
            return True
        word = ons[word - 1]
    return False


def hangings_gone_through(n):
    """The rising list of all hangings of n words."""
    return [
        ons for ons in itertools.product(range(n + 1), repeat=n)
        if ons.count(0) == 1 and all(comes_to_none(ons, word) for word in range(1, n + 1))
    ]


def worth_by_words(w, h):
    """The worths of all words together, None where one is None."""
    worths = [w[at][on] for at, on in enumerate(h)]
    return None if None in worths else sum(worths)


def ranked_by_words(w, hangings):
    """All pairs (worth, h) of those of the hangings that may be, those of more worth ahead, like ones rising."""
    pairs = [(worth_by_words(w, h), h) for h in hangings]
    return sorted([pair for pair in pairs if pair[0] is not None], key=lambda pair: (-pair[0], pair[1]))


def in_order(w):
    """All pairs (worth, h) that may be, those of more worth ahead, like ones rising."""
    return ranked_by_words(w, hangings_gone_through(len(w)))


def some_table(seed, n, low, high, barred):
    """A worth table by a seed, with worths from low to high, about so many of a hundred entries None."""
    chance = random.Random(seed)
    rows = []
    for word in range(1, n + 1):
        row = [None if chance.randrange(100) < barred else chance.randint(low, high) for _ in range(n + 1)]
        row[word] = None
        rows.append(tuple(row))
    return tuple(rows)


def even_table(n, worth):
    """The worth table of n words with one worth for all entries but own ones."""
    return tuple(
        tuple(None if on == word else worth for on in range(n + 1)) for word in range(1, n + 1)
    )


def some_hanging(seed, n):
    """A hanging of n words by a seed."""
    chance = random.Random(seed)
    words = list(range(1, n + 1))
    chance.shuffle(words)
    ons = [0] * n
    for at in range(1, n):
        ons[words[at] - 1] = words[chance.randrange(at)]
    return tuple(ons)


def put_at(thing, way, new):
    """A thing of lists and tuples with another one at a place, told by the way down to it."""
    if not way:
        return new
    parts = list(thing)
    parts[way[0]] = put_at(parts[way[0]], way[1:], new)
    return type(thing)(parts)


def ways_down(thing):
    """The ways to all places of a thing of lists and tuples, to itself too."""
    ways = [()]
    if isinstance(thing, (list, tuple)):
        for at, part in enumerate(thing):
            ways += [(at,) + way for way in ways_down(part)]
    return ways


def at_way(thing, way):
    """What stands at a place."""
    for at in way:
        thing = thing[at]
    return thing


def other_kind(thing):
    """A tuple for a list, a list for a tuple."""
    return tuple(thing) if isinstance(thing, list) else list(thing)


def tie_by_words(h, word):
    """A word's tie, by the words of the document."""
    on = h[word - 1]
    return (word, on) if word < on else (on, word)


def crossings_gone_through(h):
    """The rising list of all pairs of ties that cross, by the words of the document."""
    ties = [tie_by_words(h, word) for word in range(1, len(h) + 1)]
    return sorted(
        ((a, b), (c, d)) for (a, b), (c, d) in itertools.product(ties, repeat=2) if a < c < b < d
    )


def plain_gone_through(n):
    """The rising list of all plain hangings of n words."""
    return [h for h in hangings_gone_through(n) if not crossings_gone_through(h)]


def some_factors(seed, n, high, noughts):
    """A factor table by a seed, with factors to high, about so many of a hundred entries 0."""
    table = some_table(seed, n, 1, high, noughts)
    return tuple(tuple(0 if factor is None else factor for factor in row) for row in table)


def even_factors(n, factor):
    """The factor table of n words with one factor for all entries but own ones."""
    return tuple(tuple(0 if on == word else factor for on in range(n + 1)) for word in range(1, n + 1))


def multiplied_out(f, h):
    """The product of the factors of all words of h."""
    result = 1
    for at, on in enumerate(h):
        result *= f[at][on]
    return result


def some_plain(seed, n):
    """A plain hanging of n words by a seed: each stretch has a top, and its rest falls apart into stretches."""
    chance = random.Random(seed)
    ons = [0] * n
    waiting = [(1, n, 0)]
    while waiting:
        low, high, on = waiting.pop()
        if low <= high:
            top = chance.randint(low, high)
            ons[top - 1] = on
            at, to = chance.randint(low, top), chance.randint(top, high)
            waiting += [(low, at - 1, top), (at, top - 1, top), (top + 1, to, top), (to + 1, high, top)]
    return tuple(ons)


PLAIN = {n: plain_gone_through(n) for n in range(1, 7)}


def plain_in_order(w):
    """All pairs (worth, h) of plain hangings that may be, those of more worth ahead, like ones rising."""
    return ranked_by_words(w, PLAIN[len(w)])


class Walk:
    """A reader by the words of the document, with lists that are changed."""

    def __init__(self, n, steps=()):
        self.n, self.pile, self.at, self.ons = n, [], 1, {}
        for word in steps:
            self.do(word)

    def may(self):
        can = {"read": self.at <= self.n, "next": self.at <= self.n and self.pile != [], "under": len(self.pile) >= 2}
        return [word for word in STEPS if can[word]]

    def do(self, word):
        if word == "read":
            self.pile.append(self.at)
            self.at += 1
        else:
            high = self.pile.pop()
            self.ons[high] = self.at if word == "next" else self.pile[-1]

    def stand(self):
        return tuple(self.pile), self.at, tuple(self.ons.get(word) for word in range(1, self.n + 1))

    def hanging(self):
        if self.at <= self.n or len(self.pile) != 1:
            return None
        return tuple(self.ons.get(word, 0) for word in range(1, self.n + 1))


def all_step_lists(n):
    """All lists of steps that can be done, the empty one too."""
    found, waiting = [], [[]]
    while waiting:
        steps = waiting.pop()
        found.append(steps)
        waiting += [steps + [word] for word in Walk(n, steps).may()]
    return found


def word_towards(h, stand):
    """The step that leads on to h: a word goes from the pile as soon as all that hang on it are hung."""
    pile, at, ons = stand
    if pile:
        high = pile[-1]
        if h[high - 1] == at:
            return "next"
        hung = all(ons[word - 1] == high for word in range(1, len(h) + 1) if h[word - 1] == high)
        if len(pile) > 1 and h[high - 1] == pile[-2] and hung:
            return "under"
    return "read"


def stands_gone_through(n):
    """All stands of readers of n words, each with a list of steps that leads to it, those of fewer steps ahead."""
    found, waiting = {}, [[]]
    for steps in waiting:
        walk = Walk(n, steps)
        if walk.stand() not in found:
            found[walk.stand()] = steps
            waiting += [steps + [word] for word in walk.may()]
    return found


def come_to_from(n):
    """For each stand of readers of n words the rising list of the hangings to which some steps lead from it."""
    found = {}
    for stand, steps in reversed(stands_gone_through(n).items()):
        walk = Walk(n, steps)
        done = set() if walk.hanging() is None else {walk.hanging()}
        found[stand] = sorted(done.union(*[found[Walk(n, steps + [word]).stand()] for word in walk.may()]))
    return found
