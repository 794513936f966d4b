"""A retelling's text, written and read [9]."""

from newletters.errors import NoText
from newletters.letters import MOST_LETTERS, first_letters
from newletters.wordtexts import read_word, shown_word


def row_head(letter):
    return f"{letter} = "


def show_retelling(retelling):
    letters = first_letters(len(retelling))
    return "\n".join([row_head(letter) + shown_word(word) for letter, word in zip(letters, retelling)])


# The word that the row tells of this letter, or None where the row is none.
def word_in_row(n, letter, row):
    head = row_head(letter)
    return read_word(n, row[len(head):]) if row.startswith(head) else None


def read_retelling(text):
    rows = text.split("\n")
    n = min(len(rows), MOST_LETTERS)
    words = []
    for letter, row in zip(first_letters(n), rows):
        word = word_in_row(n, letter, row)
        if word is None:
            raise NoText(len(words))
        words.append(word)
    if len(rows) > n:
        raise NoText(n)
    return tuple(words)
