"""Roads of changes and exchanges, one step behind the other [16]."""

from newletters.alphabets import leading_back
from newletters.changes import change_told
from newletters.letters import contrary
from newletters.retellings import row_retold, told_same, told_then

EXCHANGE = "exchange"


# An exchange's letters are words of one letter, so they are a retelling as they stand.
def step_told(n, step):
    if step[0] == EXCHANGE:
        return step[1]
    return change_told(n, step[1:])


def road_told(n, road):
    told = told_same(n)
    for step in road:
        told = told_then(told, step_told(n, step))
    return told


# A letter and its contrary are neighbours in order, so the side still rises with the one in the other's place.
def step_back(step):
    if step[0] == EXCHANGE:
        return (EXCHANGE, leading_back(step[1]))
    by = contrary(step[1])
    return (step[0], by, tuple([by if letter == step[1] else letter for letter in step[2]]))


def road_back(n, road):
    return tuple([step_back(step) for step in reversed(road)])


def rows_along(n, rings, road):
    rows = []
    row = rings
    for step in road:
        row = row_retold(step_told(n, step), row)
        rows.append(row)
    return rows
