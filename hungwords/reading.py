"""A reader that goes over a row of words, step by step, and hangs them.

A stand is a tuple (pile, next, ons): the words of the pile, the lowest first; the word that's read next; and for each
word the one on which it was hung so far, else None.
"""

from hungwords.errors import NoStep


def first_stand(n):
    """The stand of a reader of n words at its beginning."""
    return (), 1, (None,) * n


def steps_from(stand):
    """The list of the steps that can be done from a stand."""
    pile, ahead, ons = stand
    found = []
    if ahead <= len(ons):
        found.append("read")
        if pile:
            found.append("next")
    if len(pile) > 1:
        found.append("under")
    return found


def behind(stand, word):
    """The stand behind a step that can be done."""
    pile, ahead, ons = stand
    if word == "read":
        return pile + (ahead,), ahead + 1, ons
    high = pile[-1]
    on = ahead if word == "next" else pile[-2]
    return pile[:-1], ahead, ons[:high - 1] + (on,) + ons[high:]


class Reader:
    """A stand, and all steps that led to it, each with the stand ahead of it."""

    def __init__(self, n):
        self.now = first_stand(n)
        self.past = []

    def step(self, word):
        """Does a step; refused with NoStep where it can't be done."""
        if word not in steps_from(self.now):
            raise NoStep(len(self.past))
        self.past.append((word, self.now))
        self.now = behind(self.now, word)

    def may(self):
        """The list of the steps that can be done."""
        return steps_from(self.now)

    def stand(self):
        """The tuple (pile, next, ons)."""
        return self.now

    def is_done(self):
        """Whether all words are read, and all but one are hung."""
        pile, ahead, ons = self.now
        return ahead == len(ons) + 1 and len(pile) == 1

    def hanging(self):
        """The hanging, None where it isn't done."""
        if not self.is_done():
            return None
        return tuple([0 if on is None else on for on in self.now[2]])

    def steps(self):
        """The list of all steps done."""
        return [word for word, before in self.past]

    def back(self):
        """Takes the last step back and tells it, None where there is none."""
        if not self.past:
            return None
        word, before = self.past.pop()
        self.now = before
        return word

    def twin(self):
        """A Reader of its own that stands likewise, all steps with it."""
        other = Reader(len(self.now[2]))
        other.now = self.now
        other.past = list(self.past)
        return other
