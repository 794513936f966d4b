"""Rings led to one another, or told apart [23]."""

from newletters.forms import letters_to_form
from newletters.levels import roads_to_forms
from newletters.papers import paper_for
from newletters.retellings import ring_retold
from newletters.rings import ring_of
from newletters.roads import EXCHANGE, change_step, road_back, road_laid_out
from newletters.shortening import made_short
from newletters.words import words_in_order


# A road that leads the ring to the form of its shortest ring, and this form.
def led_to_short_form(n, ring):
    made = made_short(n, (ring,))
    short = made[1][0]
    letters = letters_to_form(n, short)
    road = tuple([change_step(change) for change in made[0]]) + ((EXCHANGE, letters),)
    return (road_laid_out(n, road), ring_retold(letters, short))


def led_to(n, one, other, most):
    first = led_to_short_form(n, ring_of(one))
    second = led_to_short_form(n, ring_of(other))
    if len(first[1]) != len(second[1]):
        return ("lengths", paper_for(n, (ring_of(one),)), paper_for(n, (ring_of(other),)))
    roads = roads_to_forms(n, first[1], most)
    if second[1] not in roads:
        return ("forms", words_in_order(list(roads)), second[1])
    road = first[0] + roads[second[1]] + road_back(n, second[0])
    return ("led", road_laid_out(n, road))
