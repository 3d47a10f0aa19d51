"""What several files ask of a thing of any kind."""


def is_number(thing):
    """Whether thing is a whole number; True and False are none, though Python counts them so."""
    return isinstance(thing, int) and not isinstance(thing, bool)


def is_name(thing):
    """Whether thing is a text of 1 to 8 letters a to z."""
    if not isinstance(thing, str) or len(thing) < 1 or len(thing) > 8:
        return False
    return all(["a" <= sign <= "z" for sign in thing])


def is_tuple_of(thing, many):
    """Whether thing is a tuple of just so many things."""
    return isinstance(thing, tuple) and len(thing) == many


def is_laid_out(thing):
    """Whether thing has the form of all tables: a tuple of some rows, each a tuple of one entry more than rows."""
    if not isinstance(thing, tuple) or len(thing) == 0:
        return False
    return all([is_tuple_of(row, len(thing) + 1) for row in thing])
