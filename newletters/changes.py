"""Changes: a letter set beside other letters, as a side for it tells [15]."""

from newletters.errors import NoChange
from newletters.letters import contrary, first_letters, letters_of
from newletters.retellings import row_retold
from newletters.rings import row_length
from newletters.sides import sides_for, ties_leaving
from newletters.ties import count_of, ties_of


# What of the change is wrong, or None.
def change_fault(n, change):
    if change[0] not in letters_of(n):
        return "letter"
    if change[1] not in sides_for(n, change[0]):
        return "side"
    return None


def look_change(n, change):
    fault = change_fault(n, change)
    if fault is not None:
        raise NoChange(fault)
    return True


def letter_changed(letter, by, side):
    if letter in (by, contrary(by)):
        return letter
    ahead = contrary(by) if contrary(letter) in side else ""
    behind = by if letter in side else ""
    return ahead + letter + behind


def change_told(n, change):
    return tuple([letter_changed(letter, change[0], change[1]) for letter in first_letters(n)])


def rings_changed(n, rings, change):
    return row_retold(change_told(n, change), rings)


def length_behind(n, rings, change):
    return row_length(rings) - count_of(rings, change[0]) + ties_leaving(ties_of(rings), change[1])
