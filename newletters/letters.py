"""The letters, their order and their contraries [4]."""

MOST_LETTERS = 4

LETTERS = ("a", "A", "b", "B", "c", "C", "d", "D")

CONTRARIES = {"a": "A", "A": "a", "b": "B", "B": "b", "c": "C", "C": "c", "d": "D", "D": "d"}

RANKS = {"a": 0, "A": 1, "b": 2, "B": 3, "c": 4, "C": 5, "d": 6, "D": 7}


def letters_of(n):
    return LETTERS[:2 * n]


# The letters a, b, .. without their contraries.
def first_letters(n):
    return LETTERS[:2 * n:2]


def contrary(letter):
    return CONTRARIES[letter]


# Python's own order of texts puts A, B ahead of a, b; the document's order is a, A, b, B.
def rank_of(letter):
    return RANKS[letter]
