"""What several test files share: words by chance (always the same ones), all short words, looks at refusals."""

import itertools
import random

ALL_LETTERS = "aAbBcCdD"


def letters_upto(n):
    return ALL_LETTERS[:2 * n]


def is_plain(text):
    return all(one != other.swapcase() for one, other in zip(text, text[1:]))


def taken_out(text):
    """Laid out by the document's own words: two out, begun anew, until there are none."""
    for place in range(len(text) - 1):
        if text[place] == text[place + 1].swapcase():
            return taken_out(text[:place] + text[place + 2:])
    return text


def backwards(word):
    return word[::-1].swapcase()


def in_order(word):
    return (len(word), [ALL_LETTERS.index(letter) for letter in word])


def plain_words(n, longest):
    """All plain words of n with at most so many letters."""
    for size in range(longest + 1):
        for signs in itertools.product(letters_upto(n), repeat=size):
            if is_plain(signs):
                yield "".join(signs)


def chance(seed):
    return random.Random(seed)


def text_by_chance(source, n, size):
    return "".join(source.choice(letters_upto(n)) for place in range(size))


def word_by_chance(source, n, size):
    word = ""
    while len(word) < size:
        letter = source.choice(letters_upto(n))
        if not word or word[-1] != letter.swapcase():
            word += letter
    return word


def refusal_of(case, kind, function, *handed):
    """The refusal, which must be of just this class."""
    with case.assertRaises(kind) as caught:
        function(*handed)
    case.assertIs(type(caught.exception), kind)
    return caught.exception
