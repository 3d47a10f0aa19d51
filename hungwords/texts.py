"""Hangings written as texts."""

from hungwords.errors import BadText
from hungwords.hangings import is_hanging


def hanging_text(h):
    """The numbers of h, parted by one blank."""
    return " ".join([str(on) for on in h])


def hanging_from(text):
    """The hanging, of at most 99 words, that a text writes just so; refused with BadText."""
    ons = tuple([number_from(part, 99) for part in text.split(" ")])
    if len(ons) > 99 or not is_hanging(ons):
        raise BadText("the text writes no hanging of at most 99 words")
    return ons


def number_from(text, most):
    """The number, from 0 to most, that a text writes by plain figures, no nought ahead but 0; None else."""
    # Python reads no number of some thousand figures, so what is longer than most isn't read at all.
    if text == "" or len(text) > len(str(most)) or not all(["0" <= sign <= "9" for sign in text]):
        return None
    if text[0] == "0" and text != "0":
        return None
    number = int(text)
    return number if number <= most else None
