"""A retelling's text, written and read [9]."""

from newletters.errors import NoText
from newletters.letters import MOST_LETTERS, first_letters
from newletters.words import first_fault

NO_LETTERS = "."


def row_head(letter):
    return f"{letter} = "


def shown_word(word):
    return NO_LETTERS if word == "" else word


def show_retelling(retelling):
    letters = first_letters(len(retelling))
    return "\n".join([row_head(letter) + shown_word(word) for letter, word in zip(letters, retelling)])


# The word that the row tells of this letter, or None where the row is none.
def word_in_row(n, letter, row):
    head = row_head(letter)
    if not row.startswith(head):
        return None
    shown = row[len(head):]
    if shown == NO_LETTERS:
        return ""
    if shown == "" or first_fault(n, shown) is not None:
        return None
    return shown


def read_retelling(text):
    rows = text.split("\n")
    n = min(len(rows), MOST_LETTERS)
    words = []
    for letter, row in zip(first_letters(n), rows):
        word = word_in_row(n, letter, row)
        if word is None:
            raise NoText(len(words))
        words.append(word)
    if len(rows) > n:
        raise NoText(n)
    return tuple(words)
