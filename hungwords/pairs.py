"""Two readers of one row of words, held together."""

from hungwords.errors import Apart
from hungwords.reading import Reader
from hungwords.slips import allowed, kept_to
from hungwords.spans import best_plain


class Pair:
    """Two Readers, how far one may read ahead of the other, and which of them did each step that stands."""

    def __init__(self, n, gap):
        self.both = (Reader(n), Reader(n))
        self.gap = gap
        self.order = []

    def step(self, which, word):
        """Lets one of them do a step; refused with NoStep, then with Apart."""
        self.both[which].step(word)
        one, other = self.stands()
        if abs(one[1] - other[1]) > self.gap:
            self.both[which].back()
            raise Apart("the readers would come too far apart")
        self.order.append(which)

    def back(self):
        """Takes the last step of either back and tells the pair (which, word), None where there is none."""
        if not self.order:
            return None
        which = self.order.pop()
        return which, self.both[which].back()

    def stands(self):
        """The pair of the stands of both."""
        one, other = self.both
        return one.stand(), other.stand()

    def alike(self):
        """The rising list of the words that both have hung on the same one."""
        return [word for word, ons in self.hung_by_both() if ons[0] == ons[1]]

    def unlike(self):
        """The rising list of the words that both have hung, on unlike ones."""
        return [word for word, ons in self.hung_by_both() if ons[0] != ons[1]]

    def allowed_both(self):
        """The list with, for each word, the rising list of those on which both may hang it in the end."""
        one, other = self.stands()
        return [[on for on in ons if on in others] for ons, others in zip(allowed(one), allowed(other))]

    def can_meet(self):
        """Whether some hanging can be come to by both."""
        lists = self.allowed_both()
        even = ((0,) * (len(lists) + 1),) * len(lists)
        return self.meet(even) is not None

    def meet(self, w):
        """The pair (worth, h) of the best hanging to which both can come, of several the least; None if there is none.

        How far apart they may be bars none: the one that is behind can always go on.
        """
        return best_plain(kept_to(w, self.allowed_both()))

    def twin(self):
        """A Pair of its own that stands likewise, all steps with it."""
        one, other = self.both
        second = Pair(len(one.stand()[2]), self.gap)
        second.both = (one.twin(), other.twin())
        second.order = list(self.order)
        return second

    def hung_by_both(self):
        """The rising list of the pairs of a word that both have hung and the pair of those on which they hung it."""
        one, other = self.stands()
        return [(word, ons) for word, ons in enumerate(zip(one[2], other[2]), start=1) if None not in ons]
