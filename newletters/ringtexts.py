"""A row of rings as a text, written and read [28]."""

from newletters.errors import NoText
from newletters.rings import is_ring
from newletters.wordtexts import read_word, shown_word


def show_rings(rings):
    return " ".join([shown_word(ring) for ring in rings])


def read_rings(n, text):
    if text == "":
        return ()
    rings = []
    for number, shown in enumerate(text.split(" ")):
        word = read_word(n, shown)
        if word is None or not is_ring(word):
            raise NoText(number)
        rings.append(word)
    return tuple(rings)
