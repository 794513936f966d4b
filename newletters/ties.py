"""Ties between the letters of a row of rings, and how often a letter counts [12]."""

from newletters.letters import contrary, letters_of, rank_of


# The key under which ties between two letters stand.
def tied_pair(one, other):
    return (one, other) if rank_of(one) < rank_of(other) else (other, one)


def ties_of(rings):
    ties = {}
    for ring in rings:
        for place, letter in enumerate(ring):
            # At place 0 this is the last letter, so the ring is closed.
            pair = tied_pair(ring[place - 1], contrary(letter))
            ties[pair] = ties.get(pair, 0) + 1
    return ties


def ties_between(ties, one, other):
    return ties.get((one, other), 0) + ties.get((other, one), 0)


def count_of(rings, letter):
    return sum([ring.count(letter) + ring.count(contrary(letter)) for ring in rings])


# The letters of n that count in the rings, their contraries too.
def letters_standing(n, rings):
    return [letter for letter in letters_of(n) if count_of(rings, letter) > 0]
