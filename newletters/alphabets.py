"""Alphabets: retellings that another one leads back [11]."""

from newletters.errors import NoAlphabet
from newletters.letters import first_letters
from newletters.webs import Weave, web_of


def look_alphabet(retelling):
    n = len(retelling)
    web = web_of(n, retelling)
    if web != ((0,) * n,):
        raise NoAlphabet(web)
    return True


# Each word is told by its letter: where all ways are rounds at one place, each letter's round says of which of
# the words the letter is joined.
def leading_back(retelling):
    look_alphabet(retelling)
    letters = first_letters(len(retelling))
    weave = Weave()
    for letter, word in zip(letters, retelling):
        weave.lay_word(word, letter)
    weave.fold()
    return tuple([weave.round_told(letter) for letter in letters])
