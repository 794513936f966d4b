"""Papers that show of a row of rings how short it can be made [19]."""

from newletters.changes import change_fault, length_behind, rings_changed
from newletters.errors import NoPaper
from newletters.flows import flow_for, flow_worth
from newletters.letters import first_letters
from newletters.rings import row_length
from newletters.shortening import made_short
from newletters.ties import count_of, ties_of


def paper_for(n, rings):
    made = made_short(n, rings)
    ties = ties_of(made[1])
    return (tuple(made[0]), tuple([flow_for(n, ties, letter) for letter in first_letters(n)]))


# The row behind the changes, each of which must make it shorter.
def row_behind(n, rings, changes):
    row = rings
    for number, change in enumerate(changes):
        if change_fault(n, change) is not None or length_behind(n, row, change) >= row_length(row):
            raise NoPaper(number)
        row = rings_changed(n, row, change)
    return row


def first_false_flow(n, row, flows):
    ties = ties_of(row)
    for number, letter in enumerate(first_letters(n)):
        if flow_worth(n, ties, letter, flows[number]) != count_of(row, letter):
            return number
    return None


def paper_holds(n, rings, paper):
    changes = paper[0]
    flows = paper[1]
    row = row_behind(n, rings, changes)
    if len(flows) != n:
        raise NoPaper(len(changes))
    number = first_false_flow(n, row, flows)
    if number is not None:
        raise NoPaper(len(changes) + number)
    return True
