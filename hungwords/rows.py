"""How the rows of a sheet are written."""

from hungwords.checks import is_name
from hungwords.errors import BadSheet
from hungwords.texts import number_from

STEPS = ("read", "next", "under")


def rows_of(text):
    """The list of pairs (word, things) of all rows but empty ones: the row's first word, and the list of what follows.

    Refused with BadSheet, row the number of the first row that isn't written as told.
    """
    found = []
    many = 0
    for at, row in enumerate(text.split("\n")):
        if row != "":
            parts = row.split(" ")
            things = things_of(parts[0], parts[1:], many)
            if things is None:
                raise BadSheet(at)
            if parts[0] == "words":
                many = len(things)
            found.append((parts[0], things))
    return found


def things_of(word, parts, many):
    """The list of what the parts behind a row's first word write, with a row of so many words; None where wrongly."""
    if word not in FORMS or (many == 0 and word != "words"):
        return None
    form = FORMS[word]
    return form(parts, many)


def nothing(parts, many):
    """The empty list, where there is no part."""
    return None if parts else []


def new_words(parts, many):
    """The list of 1 to 12 NAMES."""
    if len(parts) < 1 or len(parts) > 12 or not all([is_name(part) for part in parts]):
        return None
    return parts


def ons(parts, many):
    """The list of as many numbers of words, or 0, as there are words."""
    numbers = [number_from(part, many) for part in parts]
    return None if len(numbers) != many or None in numbers else numbers


def word_and_on(parts, many):
    """The list of a word's number and another one's, or 0."""
    numbers = [number_from(part, many) for part in parts]
    if len(numbers) != 2 or None in numbers or numbers[0] == 0 or numbers[0] == numbers[1]:
        return None
    return numbers


def word_on_and_worth(parts, many):
    """The list of such numbers and a worth."""
    numbers = word_and_on(parts[:2], many)
    if numbers is None or len(parts) != 3:
        return None
    worth = worth_from(parts[2])
    return None if worth is None else numbers + [worth]


def worth_from(text):
    """The number of at most 9 figures, maybe with a minus ahead, not of 0, that a text writes; None else."""
    if not text.startswith("-"):
        return number_from(text, 999999999)
    size = number_from(text[1:], 999999999)
    return None if size is None or size == 0 else -size


def how_many(parts, many):
    """The list of one number from 0 to 60."""
    numbers = [number_from(part, 60) for part in parts]
    return None if len(numbers) != 1 or None in numbers else numbers


def one_step(parts, many):
    """The list of one step."""
    return steps(parts, many) if len(parts) == 1 else None


def steps(parts, many):
    """The list of steps, maybe none."""
    return parts if all([part in STEPS for part in parts]) else None


FORMS = {
    "words": new_words,
    "worth": word_on_and_worth,
    "bar": word_and_on,
    "learn": nothing,
    "read": nothing,
    "next": nothing,
    "under": nothing,
    "back": nothing,
    "put": ons,
    "plain": nothing,
    "any": nothing,
    "first": how_many,
    "firstany": how_many,
    "stand": nothing,
    "still": nothing,
    "cost": one_step,
    "sure": nothing,
    "slips": steps,
    "crossings": ons,
}
