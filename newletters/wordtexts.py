"""Words as they stand within texts, where one without letters needs a sign of its own [9, 28, 30]."""

from newletters.words import first_fault

NO_LETTERS = "."


def shown_word(word):
    return NO_LETTERS if word == "" else word


# The word that is so shown, or None where none is.
def read_word(n, shown):
    if shown == NO_LETTERS:
        return ""
    if shown == "" or first_fault(n, shown) is not None:
        return None
    return shown
