"""What several files ask of a thing of any kind."""


def is_number(thing):
    """Whether thing is a whole number; True and False are none, though Python counts them so."""
    return isinstance(thing, int) and not isinstance(thing, bool)
