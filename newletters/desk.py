"""The desk: a row of words is asked, a text answers [30, 31]."""

from newletters.alphabets import leading_back
from newletters.errors import NoAlphabet, NoRow, TooMany
from newletters.leading import led_to
from newletters.primitives import as_letter, letters_needed
from newletters.rings import ring_of, row_length
from newletters.ringtexts import show_rings
from newletters.roadtexts import show_road
from newletters.shortening import made_short
from newletters.splits import split_rings
from newletters.webs import is_read, web_of
from newletters.words import look_word
from newletters.wordtexts import NO_LETTERS, shown_word

MOST_FORMS = 12

NONE = "none"


# What stands behind the first word is looked at by its number alone: told are those that must be words, or None.
def one_due(n, behind):
    return behind if len(behind) == 1 else None


def some_due(n, behind):
    return behind if len(behind) > 0 else None


def retelling_due(n, behind):
    return behind if len(behind) == n else None


def bar_due(n, behind):
    return [behind[0], behind[2]] if len(behind) == 3 and behind[1] == "|" else None


def colon_due(n, behind):
    return behind[:-2] + behind[-1:] if behind[-2:-1] == [":"] else None


# RINGS are words, taken by their rings.
def row_of(words):
    return tuple([ring_of(word) for word in words])


def length_made_short(n, words):
    return row_length(made_short(n, row_of(words))[1])


def ring_answer(n, words):
    return shown_word(ring_of(words[0]))


def short_answer(n, words):
    row = made_short(n, row_of(words))[1]
    return str(row_length(row)) + " " + show_rings(row)


def led_answer(n, words):
    try:
        told = led_to(n, words[0], words[1], MOST_FORMS)
    except TooMany:
        return "many"
    if told[0] == "lengths":
        return " ".join(["lengths"] + [str(length_made_short(n, [word])) for word in words])
    if told[0] == "forms":
        return "forms " + str(len(told[1]))
    road = show_road(told[1]).replace("\n", ";")
    return "led" if road == "" else "led " + road


def letter_answer(n, words):
    told = as_letter(n, words[0])
    return " ".join(("yes",) + told[1]) if told[0] == "letter" else "no"


def needs_answer(n, words):
    return str(letters_needed(n, words[0])[0])


def show_part(part):
    return str(len(part[0])) + ":" + ",".join([str(number) for number in part[1]])


def split_answer(n, words):
    parts = split_rings(n, row_of(words))[2]
    return NONE if parts == [] else " ".join([show_part(part) for part in parts])


def back_answer(n, words):
    try:
        return " ".join(leading_back(tuple(words)))
    except NoAlphabet:
        return NONE


def reads_answer(n, words):
    return "yes" if is_read(web_of(n, words[:-1]), words[-1]) else "no"


# For each first word what is due behind it, and what answers.
QUESTIONS = {
    "ring": (one_due, ring_answer),
    "short": (some_due, short_answer),
    "led": (bar_due, led_answer),
    "letter": (one_due, letter_answer),
    "needs": (one_due, needs_answer),
    "split": (some_due, split_answer),
    "back": (retelling_due, back_answer),
    "reads": (colon_due, reads_answer),
}


def word_asked(n, shown):
    word = "" if shown == NO_LETTERS else shown
    look_word(n, word)
    return word


def answered(n, row):
    if not isinstance(row, str):
        raise NoRow()
    words = row.split(" ")
    if "" in words or words[0] not in QUESTIONS:
        raise NoRow()
    due = QUESTIONS[words[0]][0](n, words[1:])
    if due is None:
        raise NoRow()
    return QUESTIONS[words[0]][1](n, [word_asked(n, shown) for shown in due])
