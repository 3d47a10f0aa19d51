"""Lists of steps that lead a reader to a hanging."""

from hungwords.errors import NoPlain, NoStep
from hungwords.hangings import hung_on
from hungwords.plain import is_plain
from hungwords.reading import behind, first_stand, steps_from


def steps_of(h):
    """The list of steps that lead to h, each word hung as soon as it may; refused with NoPlain where h isn't plain."""
    if not is_plain(h):
        raise NoPlain("no steps lead to a hanging with crossings")
    stand = first_stand(len(h))
    found = []
    # Each word is read once, and each but the top is hung once.
    for place in range(2 * len(h) - 1):
        word = towards(h, stand)
        found.append(word)
        stand = behind(stand, word)
    return found


def towards(h, stand):
    """The step from a stand that leads to h, a plain one."""
    can = [word for word in steps_from(stand) if keeps(h, stand, word)]
    if "next" in can:
        return "next"
    if "under" in can and is_gathered(h, stand):
        return "under"
    return "read"


def keeps(h, stand, word):
    """Whether a step that can be done hangs no word otherwise than h does."""
    if word == "read":
        return True
    high = stand[0][-1]
    return behind(stand, word)[2][high - 1] == h[high - 1]


def is_gathered(h, stand):
    """Whether all words that hang on the pile's highest one are hung."""
    pile, ahead, ons = stand
    return all([ons[word - 1] is not None for word in hung_on(h, pile[-1])])


def led(n, steps):
    """The stand behind these steps; refused with NoStep, place the first that can't be done."""
    return stands_along(n, steps)[-1]


def stands_along(n, steps):
    """The list of the stands ahead of, between and behind these steps; refused as led."""
    found = [first_stand(n)]
    for place, word in enumerate(steps):
        if word not in steps_from(found[-1]):
            raise NoStep(place)
        found.append(behind(found[-1], word))
    return found


def ways_to(h):
    """How many lists of steps lead to h, done then."""
    many = {first_stand(len(h)): 1}
    for place in range(2 * len(h) - 1):
        many = one_step_on(h, many)
    return sum(many.values())


def one_step_on(h, many):
    """The dict of how many lists lead to each stand one step behind those of many, h still kept to."""
    further = {}
    for stand, ways in many.items():
        for word in steps_from(stand):
            if keeps(h, stand, word):
                after = behind(stand, word)
                further[after] = further.get(after, 0) + ways
    return further
