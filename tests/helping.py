"""What several test files share: words and rows by chance (always the same ones), all short words, answers found by
the document's own words, looks at refusals."""

import itertools
import random

ALL_LETTERS = "aAbBcCdD"


def letters_upto(n):
    return ALL_LETTERS[:2 * n]


def is_plain(text):
    return all(one != other.swapcase() for one, other in zip(text, text[1:]))


def taken_out(text):
    """Laid out by the document's own words: two out, begun anew, until there are none."""
    for place in range(len(text) - 1):
        if text[place] == text[place + 1].swapcase():
            return taken_out(text[:place] + text[place + 2:])
    return text


def backwards(word):
    return word[::-1].swapcase()


def rank(letter):
    return ALL_LETTERS.index(letter)


def in_order(word):
    return (len(word), [rank(letter) for letter in word])


def ring_by_the_book(word):
    """Ends off one by one, then the first of all begins."""
    while word and word[-1] == word[0].swapcase():
        word = word[1:-1]
    return min([word[k:] + word[:k] for k in range(len(word))] or [""], key=in_order)


def retold_by_the_book(retelling, word):
    parts = []
    for letter in word:
        told = retelling["abcd".index(letter.lower())]
        parts.append(told if letter.islower() else backwards(told))
    return taken_out("".join(parts))


def then_by_the_book(one, other):
    return tuple(retold_by_the_book(other, word) for word in one)


def ties_by_the_book(rings):
    """Each letter with the next one round, a tie at a time."""
    ties = {}
    for ring in rings:
        for letter, behind in zip(ring, ring[1:] + ring[:1]):
            pair = tuple(sorted((letter, behind.swapcase()), key=rank))
            ties[pair] = ties.get(pair, 0) + 1
    return ties


def capacity(ties, one, other):
    return ties.get((one, other), ties.get((other, one), 0))


def worth_by_the_book(n, ties, letter, flow):
    """Each condition of a flow by itself."""
    pairs = [(one, other) for one, other, many in flow]
    order = [(rank(one), rank(other)) for one, other in pairs]
    if order != sorted(order) or len(set(pairs)) != len(pairs):
        return None
    if any((other, one) in pairs for one, other in pairs):
        return None
    if any(many < 1 or many > capacity(ties, one, other) for one, other, many in flow):
        return None
    for place in letters_upto(n):
        goes = sum(many for one, other, many in flow if one == place)
        comes = sum(many for one, other, many in flow if other == place)
        if place == letter:
            worth = goes - comes
        elif place != letter.swapcase() and goes != comes:
            return None
    return worth if worth >= 0 else None


def sorted_flow(parts):
    return tuple(sorted(parts, key=lambda part: (rank(part[0]), rank(part[1]))))


def change_by_the_book(n, change):
    letter, side = change
    words = []
    for other in "abcd"[:n]:
        word = other
        if other != letter.lower() and other in side:
            word = word + letter
        if other != letter.lower() and other.upper() in side:
            word = letter.swapcase() + word
        words.append(word)
    return tuple(words)


def row_by_the_book(retelling, rings):
    """The rings retold."""
    return tuple(ring_by_the_book(retold_by_the_book(retelling, ring)) for ring in rings)


def exchanges(n):
    """Of each letter and its contrary one, once, in each order."""
    for order in itertools.permutations("abcd"[:n]):
        for letters in itertools.product(*[(letter, letter.swapcase()) for letter in order]):
            yield letters


def sides_by_the_book(n, letter):
    """All sides for a letter, each rising."""
    others = [other for other in letters_upto(n) if other.lower() != letter.lower()]
    for many in range(len(others) + 1):
        for chosen in itertools.combinations(others, many):
            yield tuple(sorted(chosen + (letter,), key=rank))


def plain_words(n, longest):
    """All plain words of n with at most so many letters."""
    for size in range(longest + 1):
        for signs in itertools.product(letters_upto(n), repeat=size):
            if is_plain(signs):
                yield "".join(signs)


def chance(seed):
    return random.Random(seed)


def text_by_chance(source, n, size):
    return "".join(source.choice(letters_upto(n)) for place in range(size))


def word_by_chance(source, n, size):
    word = ""
    while len(word) < size:
        letter = source.choice(letters_upto(n))
        if not word or word[-1] != letter.swapcase():
            word += letter
    return word


def row_by_chance(source, n, most=24):
    """At most four rings with at most so many letters in all, some without letters, some told twice."""
    row = []
    for again in range(source.randint(0, 4)):
        ring = ring_by_the_book(word_by_chance(source, n, source.randint(0, most // 2)))
        if row and source.random() < 0.2:
            ring = source.choice(row)
        if len("".join(row)) + len(ring) <= most:
            row.append(ring)
    return tuple(row)


def ties_by_chance(source, n, most=48):
    """Ties as they may be handed in, such as no ring makes among them."""
    ties = {}
    share = source.random()
    for pair in itertools.combinations(letters_upto(n), 2):
        if source.random() < share:
            ties[pair] = source.randint(1, most)
    return ties


def ties_cases(seed, many):
    """n and ties: none, those of rings, any others."""
    source = chance(seed)
    for n in range(1, 5):
        yield n, {}
    for again in range(many):
        n = source.randint(1, 4)
        yield n, ties_by_the_book(row_by_chance(source, n))
        yield n, ties_by_chance(source, n, source.choice((1, 2, 48)))


def change_by_chance(source, n):
    letter = source.choice(letters_upto(n))
    return letter, source.choice(list(sides_by_the_book(n, letter)))


def refusal_of(case, kind, function, *handed):
    """The refusal, which must be of just this class."""
    with case.assertRaises(kind) as caught:
        function(*handed)
    case.assertIs(type(caught.exception), kind)
    return caught.exception
