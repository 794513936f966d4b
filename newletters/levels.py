"""Level changes of a ring, and the forms to which they lead [21, 22]."""

from newletters.changes import rings_changed
from newletters.errors import TooMany
from newletters.forms import form_of, letters_to_form
from newletters.letters import rank_of
from newletters.retellings import ring_retold
from newletters.roads import EXCHANGE, change_step
from newletters.sides import sides_for, ties_leaving
from newletters.ties import count_of, letters_standing, ties_of
from newletters.words import words_in_order


def ranks_in_side(side):
    return [rank_of(letter) for letter in side]


def sides_standing(n, standing, letter):
    return [side for side in sides_for(n, letter) if all([other in standing for other in side])]


def level_changes(n, ring):
    standing = letters_standing(n, (ring,))
    ties = ties_of((ring,))
    changes = []
    for letter in standing:
        count = count_of((ring,), letter)
        sides = [side for side in sides_standing(n, standing, letter) if ties_leaving(ties, side) == count]
        changes.extend([(letter, side) for side in sorted(sides, key=ranks_in_side)])
    return changes


# The rings to which level changes lead, each with the first such change: many lead to the same ring, and a ring's
# form is dear.
def level_rings(n, ring):
    changes = {}
    for change in level_changes(n, ring):
        changes.setdefault(rings_changed(n, (ring,), change)[0], change)
    return changes


# All forms to which level changes lead from a form, each with a road that leads there.
def roads_to_forms(n, form, most):
    roads = {form: ()}
    reached = [form]
    done = 0
    while done < len(reached):
        here = reached[done]
        for ring, change in level_rings(n, here).items():
            letters = letters_to_form(n, ring)
            there = ring_retold(letters, ring)
            if there not in roads:
                roads[there] = roads[here] + (change_step(change), (EXCHANGE, letters))
                reached.append(there)
        # Looked at as soon as may be: there may be far more forms than are asked for.
        if len(roads) > most:
            raise TooMany()
        done += 1
    return roads


def forms_from(n, ring, most):
    return words_in_order(list(roads_to_forms(n, form_of(ring), most)))
