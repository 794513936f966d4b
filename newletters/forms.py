"""Forms: the first of all rings that come of a ring by exchanges of letters [20]."""

from newletters.letters import MOST_LETTERS, contrary, first_letters
from newletters.retellings import ring_retold, words_by_letter
from newletters.words import order_key


# In what orders letters come up, begun at each place and read round. Walked from behind, the letter just met comes
# up first, so a long ring takes two rounds and not one for each place. The orders of the first round may lack
# letters: they are only some more, and the one without letters lets a ring that is its own form stay.
def orders_round(ring):
    order = ()
    orders = {order: True}
    for letter in reversed(ring + ring):
        order = (letter,) + tuple([other for other in order if other not in (letter, contrary(letter))])
        orders[order] = True
    return list(orders)


# The exchange by which the letters of the order become a, b, ..; those that are not in it come behind them.
def exchange_from(n, order):
    behind = tuple([letter for letter in first_letters(n) if letter not in order and contrary(letter) not in order])
    told = words_by_letter(order + behind)
    letters = dict([(other, letter) for letter, other in told.items()])
    return tuple([letters[letter] for letter in first_letters(n)])


def letters_to_form(n, ring):
    exchanges = [exchange_from(n, order) for order in orders_round(ring)]
    return min(exchanges, key=lambda letters: order_key(ring_retold(letters, ring)))


def form_of(ring):
    return ring_retold(letters_to_form(MOST_LETTERS, ring), ring)
