"""Rows of rings made shorter, change by change, until they are shortest [17, 18]."""

from newletters.changes import rings_changed
from newletters.letters import first_letters
from newletters.sides import least_side, ties_leaving
from newletters.ties import count_of, ties_of


def made_shorter(n, rings):
    ties = ties_of(rings)
    for letter in first_letters(n):
        side = least_side(n, ties, letter)
        fall = count_of(rings, letter) - ties_leaving(ties, side)
        if fall > 0:
            return ((letter, side), fall)
    return None


def made_short(n, rings):
    changes = []
    row = rings
    shorter = made_shorter(n, row)
    while shorter is not None:
        changes.append(shorter[0])
        row = rings_changed(n, row, shorter[0])
        shorter = made_shorter(n, row)
    return (changes, row)
