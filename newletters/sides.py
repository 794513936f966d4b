"""Sides, the ties that leave them, and the least side for a letter [13]."""

from newletters.letters import contrary, letters_of


def ties_leaving(ties, side):
    return sum([many for pair, many in ties.items() if (pair[0] in side) != (pair[1] in side)])


# All sides that have the letter in them and not its contrary.
def sides_for(n, letter):
    sides = [()]
    for other in letters_of(n):
        if other == contrary(letter):
            continue
        wider = [side + (other,) for side in sides]
        sides = wider if other == letter else sides + wider
    return sides


# There are at most 64 sides for a letter, so they are simply gone through.
def least_side(n, ties, letter):
    return min(sides_for(n, letter), key=lambda side: (ties_leaving(ties, side), len(side)))
