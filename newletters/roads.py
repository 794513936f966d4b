"""Roads of changes and exchanges, one step behind the other [16]."""

from newletters.alphabets import leading_back
from newletters.changes import change_told
from newletters.letters import contrary
from newletters.retellings import row_retold, told_same, told_then

CHANGE = "change"

EXCHANGE = "exchange"


def change_step(change):
    return (CHANGE,) + change


# An exchange's letters are words of one letter, so they are a retelling as they stand.
def step_told(n, step):
    if step[0] == EXCHANGE:
        return step[1]
    return change_told(n, step[1:])


# Words retold step by step: long words need not be retold by the long words of a whole road.
def words_along(n, words, road):
    told = words
    for step in road:
        told = told_then(told, step_told(n, step))
    return told


def road_told(n, road):
    return words_along(n, told_same(n), road)


# A letter and its contrary are neighbours in order, so the side still rises with the one in the other's place.
def step_back(step):
    if step[0] == EXCHANGE:
        return (EXCHANGE, leading_back(step[1]))
    by = contrary(step[1])
    return (step[0], by, tuple([by if letter == step[1] else letter for letter in step[2]]))


def road_back(n, road):
    return tuple([step_back(step) for step in reversed(road)])


def rows_along(n, rings, road):
    rows = []
    row = rings
    for step in road:
        row = row_retold(step_told(n, step), row)
        rows.append(row)
    return rows


# As with words: steps side by side that undo one another fall away, and so does the exchange that keeps each letter;
# exchanges side by side become one.
def road_laid_out(n, road):
    kept = []
    for step in road:
        if step == (EXCHANGE, told_same(n)):
            continue
        if len(kept) > 0 and step == step_back(kept[-1]):
            kept.pop()
        elif len(kept) > 0 and step[0] == EXCHANGE and kept[-1][0] == EXCHANGE:
            kept[-1] = (EXCHANGE, told_then(kept[-1][1], step[1]))
        else:
            kept.append(step)
    return tuple(kept)
