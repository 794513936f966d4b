"""Rows of rings split into parts with letters of their own [27]."""

from newletters.letters import first_letters, letters_of
from newletters.roads import change_step
from newletters.shortening import made_short
from newletters.ties import ties_between, ties_of


# The letters to which ties lead from this one, however many lie between, and itself.
def tied_together(n, ties, letter):
    tied = [letter]
    done = 0
    while done < len(tied):
        here = tied[done]
        tied.extend([other for other in letters_of(n) if other not in tied and ties_between(ties, here, other) > 0])
        done += 1
    return tied


# In a shortest row ties lead from each letter to its contrary: where they didn't, no tie would leave the side of the
# letters tied to it, and the row could be made shorter. So all letters of a ring are in one part, and any one of
# them tells which.
def parts_of(n, row):
    ties = ties_of(row)
    parts = []
    placed = []
    for ring in row:
        if ring == "" or ring[0] in placed:
            continue
        tied = tied_together(n, ties, ring[0])
        letters = tuple([letter for letter in first_letters(n) if letter in tied])
        numbers = tuple([number for number, other in enumerate(row) if other != "" and other[0] in tied])
        parts.append((letters, numbers))
        placed.extend(tied)
    return parts


def split_rings(n, rings):
    made = made_short(n, rings)
    road = tuple([change_step(change) for change in made[0]])
    return (road, made[1], parts_of(n, made[1]))
