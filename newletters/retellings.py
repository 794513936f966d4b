"""Retellings: each letter told by a word [8]."""

from newletters.letters import contrary, first_letters
from newletters.rings import ring_of
from newletters.words import laid_out, turned_back


def words_by_letter(retelling):
    told = {}
    for letter, word in zip(first_letters(len(retelling)), retelling):
        told[letter] = word
        told[contrary(letter)] = turned_back(word)
    return told


def retold(retelling, word):
    told = words_by_letter(retelling)
    return laid_out("".join([told[letter] for letter in word]))


def ring_retold(retelling, ring):
    return ring_of(retold(retelling, ring))


def row_retold(retelling, rings):
    return tuple([ring_retold(retelling, ring) for ring in rings])


def told_then(one, other):
    return tuple([retold(other, word) for word in one])


def told_same(n):
    return first_letters(n)


def turned_by(n, word):
    back = turned_back(word)
    return tuple([laid_out(word + letter + back) for letter in first_letters(n)])
