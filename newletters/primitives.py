"""Words that are letters of some alphabet, and what letters a word needs [24, 25, 26]."""

from newletters.leading import led_to_short_form
from newletters.papers import paper_for
from newletters.retellings import turned_by
from newletters.rings import ring_of, wound_by
from newletters.roads import road_back, words_along
from newletters.ties import letters_standing


# The road leads the ring to a, but the word itself to a turned by some g: so a is first turned by g, then led back.
def as_letter(n, word):
    ring = ring_of(word)
    led = led_to_short_form(n, ring)
    if len(led[1]) != 1:
        return ("none", paper_for(n, (ring,)))
    end = words_along(n, (word,), led[0])[0]
    return ("letter", words_along(n, turned_by(n, wound_by(end)), road_back(n, led[0])))


# A shortest ring has no letter that it could be told without, and a form has the first letters alone.
def letters_needed(n, word):
    led = led_to_short_form(n, ring_of(word))
    return (len(letters_standing(n, (led[1],))) // 2, led[0])
