"""The hanging of the greatest worth of all, by rounds in which rings are drawn together.

In each round every group of words, at first each word by itself, takes the greatest entry that leads out of it, and
all such entries are lowered by it. Groups that so hang on one another in a ring become one group. Once there is no
ring, the entries taken make the best hanging, and what was lowered makes the paper that shows it.
"""

from hungwords.worths import ranked, worth_of


def best_any(w):
    """The pair (worth, h) of the hanging of the greatest worth that may be, of several the least; None if none may."""
    solved = solve(ranked(w))
    if solved is None:
        return None
    h = solved[0]
    return worth_of(w, h), h


def likeliest(w):
    """The tuple with, for each word, the one on which its worth is greatest, of several the least, or None."""
    ons = []
    for row in w:
        worths = [worth for worth in row if worth is not None]
        ons.append(row.index(max(worths)) if worths else None)
    return tuple(ons)


def rings(ons):
    """The rising list of the rings, each the rising list of its words."""
    found = []
    for word in range(1, len(ons) + 1):
        ring = ring_from(ons, word)
        # Each of its words leads to the same ring: it's told for the first of them alone.
        if ring and ring[0] == word:
            found.append(ring)
    return found


def ring_from(ons, word):
    """The rising list of the words of the ring that word is in, empty where it's in none."""
    walked = [word]
    at = ons[word - 1]
    while at is not None and at != 0 and at not in walked:
        walked.append(at)
        at = ons[at - 1]
    return sorted(walked) if at == word else []


def paper_any(w):
    """A paper that shows the best hanging, None where there is none."""
    solved = solve(w)
    if solved is None:
        return None
    h, hook, groups, bests = solved
    sets = [(group, -best) for group, best in zip(groups, bests) if len(group) > 1]
    return hook, bests[:len(w)], sets


def solve(w):
    """The tuple (h, hook, groups, bests) of a hanging of the greatest worth; None where there is none."""
    hook = hook_for(w)
    drawn = draw([lowered_top(row, hook) for row in w])
    if drawn is None:
        return None
    groups, bests, ways = drawn
    h = entered(groups, ways, len(w))
    # Several on none are the best to be had just where no hanging with one top may be.
    if h.count(0) > 1:
        return None
    return h, hook, groups, bests


def hook_for(w):
    """So much that no change of worths makes up for one more word on none."""
    worths = [worth for row in w for worth in row if worth is not None]
    return len(w) * (max(worths, default=0) - min(worths, default=0)) + 1


def lowered_top(row, hook):
    """A row, as a list, with its entry for none less the hook."""
    first = None if row[0] is None else row[0] - hook
    return [first] + list(row[1:])


def draw(left):
    """The lists of all groups, of what each was lowered by, and of the ways that they take, inner groups ahead.

    None where some group has no way out. The rows of left are lowered in it.
    """
    groups = [(word,) for word in range(1, len(left) + 1)]
    bests = []
    ways = []
    while len(ways) < len(groups):
        group = groups[len(ways)]
        way = best_way(left, group)
        if way is None:
            return None
        best = left[way[0] - 1][way[1]]
        take_off(left, group, best)
        bests.append(best)
        ways.append(way)
        if len(ways) == len(groups):
            groups.extend(drawn_together(groups, ways, len(left)))
    return groups, bests, ways


def best_way(left, group):
    """The pair (word, on) of the greatest entry that leads out of the group, None where none does."""
    ways = [
        (word, on) for word in group for on, worth in enumerate(left[word - 1])
        if worth is not None and on not in group
    ]
    return max(ways, key=lambda way: left[way[0] - 1][way[1]], default=None)


def take_off(left, group, best):
    """Takes best off all entries that lead out of the group."""
    for word in group:
        row = left[word - 1]
        left[word - 1] = [worth if worth is None or on in group else worth - best for on, worth in enumerate(row)]


def drawn_together(groups, ways, many):
    """The list of the new groups: one for each ring that the outermost groups make."""
    heads = heads_of(groups)
    ons = [None for word in range(many)]
    for group, way in zip(groups, ways):
        # Of groups with one head the outermost comes last, so that its way is the one that stays.
        if heads[group[0]] == group[0]:
            ons[group[0] - 1] = heads[way[1]]
    return [
        tuple([word for word in range(1, many + 1) if heads[word] in ring]) for ring in rings(tuple(ons))
    ]


def heads_of(groups):
    """The dict of each word's head, the least word of its outermost group; 0 is its own."""
    heads = {0: 0}
    for group in groups:
        for word in group:
            heads[word] = group[0]
    return heads


def entered(groups, ways, many):
    """The tuple of the ones on which the words hang, once each ring is broken where its group's way begins."""
    taken = list(ways)
    for at in reversed(range(len(groups))):
        for inner in range(at):
            if taken[at][0] in groups[inner]:
                taken[inner] = taken[at]
    return tuple([on for word, on in taken[:many]])
