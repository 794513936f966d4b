"""Rings: words bent round [7]."""

from newletters.letters import contrary, rank_of


# A plain word is never used up by this: its two middle letters would be contraries side by side.
def ends_off(word):
    many = 0
    last = len(word) - 1
    while many < last - many and word[many] == contrary(word[last - many]):
        many += 1
    return many


# Two begins are held against each other. Where one loses behind some like letters, all begins among these lose
# too, so a long word takes but a few walks and not one for each of its letters.
def least_begin(word):
    ranks = [rank_of(letter) for letter in word]
    size = len(ranks)
    one = 0
    other = 1
    like = 0
    while one < size and other < size and like < size:
        left = ranks[(one + like) % size]
        right = ranks[(other + like) % size]
        if left == right:
            like += 1
            continue
        if left > right:
            one += like + 1
        else:
            other += like + 1
        if one == other:
            other += 1
        like = 0
    return min(one, other)


# The word is these letters, its ring, and them turned back, joined.
def wound_by(word):
    many = ends_off(word)
    begin = least_begin(word[many:len(word) - many])
    return word[:many + begin]


def ring_of(word):
    many = ends_off(word)
    bent = word[many:len(word) - many]
    begin = least_begin(bent)
    return bent[begin:] + bent[:begin]


def is_ring(word):
    return word == ring_of(word)


# The length of a row of rings: all their letters.
def row_length(rings):
    return sum([len(ring) for ring in rings])
