"""Words: looked at, laid out, turned back, joined, put in order [4, 5, 6]."""

from newletters.errors import NoWord
from newletters.letters import contrary, letters_of, rank_of


# All ahead of a place without fault are letters, so the contrary of the one just ahead is there.
def first_fault(n, text):
    letters = letters_of(n)
    for place, sign in enumerate(text):
        if sign not in letters:
            return place
        if place > 0 and sign == contrary(text[place - 1]):
            return place
    return None


def look_word(n, thing):
    if not isinstance(thing, str):
        raise NoWord(None)
    at = first_fault(n, thing)
    if at is not None:
        raise NoWord(at)
    return True


# What is kept is always plain, so one walk is enough: a letter can fall away with the last kept one alone.
def laid_out(text):
    kept = []
    for letter in text:
        if len(kept) > 0 and kept[-1] == contrary(letter):
            kept.pop()
        else:
            kept.append(letter)
    return "".join(kept)


def turned_back(word):
    return "".join([contrary(letter) for letter in reversed(word)])


def joined(one, other):
    return laid_out(one + other)


def order_key(word):
    return (len(word), [rank_of(letter) for letter in word])


def words_in_order(words):
    return sorted(words, key=order_key)
