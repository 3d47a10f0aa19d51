"""Kinds of ties, each with a worth of its own, and limits to how many of a kind hang on one word."""

from hungwords.checks import is_laid_out, is_name, is_number, is_tuple_of
from hungwords.spans import by_width
from hungwords.worths import figures, greatest, together, units


def is_kinds(thing):
    """Whether thing is a kind table, of any size."""
    if not is_laid_out(thing):
        return False
    return all([is_kind_row(row, word) for word, row in enumerate(thing, start=1)])


def is_kind_row(row, word):
    """Whether a tuple of as many entries as are due is the row of that word."""
    return all([is_entry(entry) for entry in row]) and row[word] == ()


def is_entry(thing):
    """Whether thing is a tuple of pairs of a kind and its worth, the kinds rising."""
    if not isinstance(thing, tuple) or not all([is_kind_pair(pair) for pair in thing]):
        return False
    names = [kind for kind, worth in thing]
    return names == sorted(set(names))


def is_kind_pair(thing):
    """Whether thing is a pair of a NAME and a number."""
    return is_tuple_of(thing, 2) and is_name(thing[0]) and is_number(thing[1])


def kinds_worth(t, h, kinds):
    """The worths of all words so hung together, None where one may not hang so."""
    return together([dict(row[on]).get(kind) for row, on, kind in zip(t, h, kinds)])


def is_within(h, kinds, limits):
    """Whether of no word, nor of 0, too many of the words on it are of a limit's kind."""
    hung = list(zip(h, kinds))
    return all([hung.count((on, kind)) <= many for on in h for kind, many in limits])


def best_kinds(t, limits):
    """The tuple (worth, h, kinds) of the best plain one that may be, within limits, of several the least; or None."""
    names = sorted({kind for row in t for entry in row for kind, worth in entry})
    base = max(len(names), len(t) + 1)
    scale = units(base, 2 * len(t))
    total = best_total(spread(t, names, scale), limits)
    if total is None:
        return None
    numbers = figures(-total, base, 2 * len(t))
    h = tuple(numbers[:len(t)])
    kinds = tuple([names[number] for number in numbers[len(t):]])
    return kinds_worth(t, h, kinds), h, kinds


def spread(t, names, scale):
    """The rows of a kind table by which of like ones the lesser, by the hanging, then the kinds, is of more worth.

    Both, as one number with a figure for each word's on, then one for each word's kind, are taken off the worths,
    which are spread so far that it outweighs none, and can be read off again.
    """
    return [
        [
            [
                (kind, worth * scale[0] - on * scale[word] - names.index(kind) * scale[len(t) + word])
                for kind, worth in entry
            ]
            for on, entry in enumerate(row)
        ]
        for word, row in enumerate(t, start=1)
    ]


def best_total(rows, limits):
    """The greatest worth of all plain hangings with kinds within the limits, None where there is none."""
    tied = [[by_limit(entry, limits) for entry in row] for row in rows]
    full = tuple([many for kind, many in limits])
    gathered = gather(tied, full)
    return greatest([
        together([row[0][at], gathered[(1, top, len(rows))]])
        for top, row in enumerate(tied, start=1) for at, room in takings(full)
    ])


def by_limit(entry, limits):
    """The list of the greatest worths of each limit's kind, and last of all other kinds."""
    limited = [kind for kind, many in limits]
    worths = [greatest([worth for name, worth in entry if name == kind]) for kind in limited]
    return worths + [greatest([worth for name, worth in entry if name not in limited])]


def gather(tied, full):
    """The dict by triples (low, top, high) of the greatest worths of hanging words low to high under top, one of them.

    A room tells, for each limit, how many of its kind may still hang on a word; full is that of a word without any.
    In right and left stand, by the first and the last word, those of hanging all others of these under the first one,
    under the last one, for each room that this one has for them.
    """
    rooms = all_rooms(full)
    words = list(range(1, len(tied) + 1))
    right = {(word, word): {room: 0 for room in rooms} for word in words}
    left = dict(right)
    gathered = {(word, word, word): 0 for word in words}
    for low, high in by_width(len(tied)):
        right[(low, high)] = roomed(rooms, [
            (right[(low, at)], one_more(tied, gathered, at + 1, high, low)) for at in range(low, high)
        ])
        left[(low, high)] = roomed(rooms, [
            (left[(at, high)], one_more(tied, gathered, low, at - 1, high)) for at in range(low + 1, high + 1)
        ])
        for top in range(low, high + 1):
            gathered[(low, top, high)] = greatest([
                together([left[(low, top)][room], right[(top, high)][less(full, room)]]) for room in rooms
            ])
    return gathered


def one_more(tied, gathered, low, high, on):
    """The list of the greatest worths of hanging words low to high, one of them on the one told, the others under it.

    As in by_limit there is one for each limit's kind, as which it may hang there, and last one for all other kinds.
    """
    tops = list(range(low, high + 1))
    return [
        greatest([together([tied[top - 1][on][at], gathered[(low, top, high)]]) for top in tops])
        for at in range(len(tied[0][0]))
    ]


def roomed(rooms, parts):
    """The dict by rooms of the greatest worths of all parts: what a lesser room had, and one more word."""
    return {
        room: greatest([together([inner[rest], more[at]]) for inner, more in parts for at, rest in takings(room)])
        for room in rooms
    }


def takings(room):
    """The list of the pairs of a limit's number, for which there is room, and the room behind one such word."""
    taken = [(at, room[:at] + (many - 1,) + room[at + 1:]) for at, many in enumerate(room) if many > 0]
    # A word of another kind takes no room.
    return taken + [(len(room), room)]


def all_rooms(full):
    """The list of all rooms up to the full one."""
    rooms = [()]
    for many in full:
        rooms = [room + (left,) for room in rooms for left in range(many + 1)]
    return rooms


def less(full, room):
    """What is left of the full room behind another one."""
    return tuple([many - taken for many, taken in zip(full, room)])
