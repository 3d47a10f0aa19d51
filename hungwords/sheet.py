"""Sheets: rows of words, their worths, and what is done and asked with them, answered by texts."""

from hungwords.anybest import best_any
from hungwords.anyseveral import first_any
from hungwords.books import Book
from hungwords.errors import NoStep
from hungwords.hangings import is_hanging
from hungwords.plain import crossings
from hungwords.reading import Reader
from hungwords.rows import STEPS, rows_of
from hungwords.several import first_plain
from hungwords.slips import cost, slips, still, sure_steps
from hungwords.spans import best_plain
from hungwords.texts import hanging_text
from hungwords.worths import with_entry, without

NOTHING = "-"
NO_STEP = "refused NoStep"
NO_HANGING = "refused NoHanging"


class Desk:
    """What a sheet has so far: the words, their worths, a Reader over them, and the one book of all words."""

    def __init__(self):
        self.words = []
        self.worths = ()
        self.reader = Reader(0)
        self.book = Book()


def run(text):
    """The list of the answers to all deeds and asks of a sheet; refused with BadSheet ahead of all of them."""
    desk = Desk()
    answers = []
    for word, things in rows_of(text):
        answer = answer_to(desk, word, things)
        if answer is not None:
            answers.append(answer)
    return answers


def answer_to(desk, word, things):
    """The answer to a row, None where it's no deed and no ask; what it does is done at the desk."""
    if word in STEPS:
        return do_step(desk, word)
    deed = DEEDS[word]
    return deed(desk, things)


def begin(desk, things):
    """New words: all worths are 0, and the Reader is at its beginning."""
    many = len(things)
    desk.words = things
    desk.worths = tuple([
        tuple([None if on == word else 0 for on in range(many + 1)]) for word in range(1, many + 1)
    ])
    desk.reader = Reader(many)


def give_worth(desk, things):
    """Another worth for a word on another one."""
    word, on, worth = things
    desk.worths = with_entry(desk.worths, word, on, worth)


def bar(desk, things):
    """A word may not hang on that one."""
    word, on = things
    desk.worths = without(desk.worths, word, on)


def learn(desk, things):
    """The worths are what the book tells of these words now."""
    desk.worths = desk.book.table_for(desk.words)


def do_step(desk, word):
    """Whether the Reader did a step."""
    try:
        desk.reader.step(word)
    except NoStep:
        return NO_STEP
    return "done"


def take_back(desk, things):
    """The step that was taken back."""
    word = desk.reader.back()
    return NOTHING if word is None else word


def put(desk, things):
    """The number of the entry that came into the book."""
    if not is_hanging(tuple(things)):
        return NO_HANGING
    return str(desk.book.put(desk.words, tuple(things)))


def tell_plain(desk, things):
    """The best plain hanging."""
    return best_text(best_plain(desk.worths))


def tell_any(desk, things):
    """The best of all hangings."""
    return best_text(best_any(desk.worths))


def best_text(best):
    """A pair (worth, h) as a text."""
    if best is None:
        return NOTHING
    return f"{best[0]}: {hanging_text(best[1])}"


def tell_first(desk, things):
    """The first so many plain hangings."""
    return bests_text(first_plain(desk.worths, things[0]))


def tell_first_any(desk, things):
    """The first so many of all hangings."""
    return bests_text(first_any(desk.worths, things[0]))


def bests_text(bests):
    """A list of pairs (worth, h) as a text."""
    return " ; ".join([best_text(best) for best in bests]) if bests else NOTHING


def tell_stand(desk, things):
    """The Reader's stand."""
    pile, ahead, ons = desk.reader.stand()
    return f"{by_blanks(pile)} | {ahead} | {by_blanks(dotted(ons))}"


def by_blanks(parts):
    """Numbers or texts parted by blanks."""
    return " ".join([str(part) for part in parts]) if parts else NOTHING


def dotted(parts):
    """A list of parts with a dot for each None."""
    return ["." if part is None else part for part in parts]


def tell_still(desk, things):
    """The greatest worth that can still be come to."""
    return number_text(still(desk.worths, desk.reader.stand()))


def number_text(number):
    """A number, maybe None, as a text."""
    return NOTHING if number is None else str(number)


def tell_cost(desk, things):
    """What a step from the Reader's stand costs."""
    try:
        return number_text(cost(desk.worths, desk.reader.stand(), things[0]))
    except NoStep:
        return NO_STEP


def tell_sure(desk, things):
    """The steps that cost nothing."""
    return by_blanks(sure_steps(desk.worths, desk.reader.stand()))


def tell_slips(desk, things):
    """What steps from the beginning on cost."""
    try:
        return by_blanks(dotted(slips(desk.worths, things)))
    except NoStep:
        return NO_STEP


def tell_crossings(desk, things):
    """The ties that cross."""
    if not is_hanging(tuple(things)):
        return NO_HANGING
    return by_blanks([f"{tie_text(one)}/{tie_text(other)}" for one, other in crossings(tuple(things))])


def tie_text(tie):
    """A tie as a text."""
    return f"{tie[0]}-{tie[1]}"


DEEDS = {
    "words": begin,
    "worth": give_worth,
    "bar": bar,
    "learn": learn,
    "back": take_back,
    "put": put,
    "plain": tell_plain,
    "any": tell_any,
    "first": tell_first,
    "firstany": tell_first_any,
    "stand": tell_stand,
    "still": tell_still,
    "cost": tell_cost,
    "sure": tell_sure,
    "slips": tell_slips,
    "crossings": tell_crossings,
}
