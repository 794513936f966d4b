"""What several test files share: words and rows by chance (always the same ones), all short words, answers found by
the document's own words, looks at refusals."""

import functools
import itertools
import random

ALL_LETTERS = "aAbBcCdD"


def letters_upto(n):
    return ALL_LETTERS[:2 * n]


def is_plain(text):
    return all(one != other.swapcase() for one, other in zip(text, text[1:]))


def taken_out(text):
    """Laid out by the document's own words: two out, begun anew, until there are none."""
    for place in range(len(text) - 1):
        if text[place] == text[place + 1].swapcase():
            return taken_out(text[:place] + text[place + 2:])
    return text


def backwards(word):
    return word[::-1].swapcase()


def rank(letter):
    return ALL_LETTERS.index(letter)


def in_order(word):
    return (len(word), [rank(letter) for letter in word])


def ring_by_the_book(word):
    """Ends off one by one, then the first of all begins."""
    while word and word[-1] == word[0].swapcase():
        word = word[1:-1]
    return min([word[k:] + word[:k] for k in range(len(word))] or [""], key=in_order)


def retold_by_the_book(retelling, word):
    parts = []
    for letter in word:
        told = retelling["abcd".index(letter.lower())]
        parts.append(told if letter.islower() else backwards(told))
    return taken_out("".join(parts))


def then_by_the_book(one, other):
    return tuple(retold_by_the_book(other, word) for word in one)


def ties_by_the_book(rings):
    """Each letter with the next one round, a tie at a time."""
    ties = {}
    for ring in rings:
        for letter, behind in zip(ring, ring[1:] + ring[:1]):
            pair = tuple(sorted((letter, behind.swapcase()), key=rank))
            ties[pair] = ties.get(pair, 0) + 1
    return ties


def capacity(ties, one, other):
    return ties.get((one, other), ties.get((other, one), 0))


def worth_by_the_book(n, ties, letter, flow):
    """Each condition of a flow by itself."""
    pairs = [(one, other) for one, other, many in flow]
    order = [(rank(one), rank(other)) for one, other in pairs]
    if order != sorted(order) or len(set(pairs)) != len(pairs):
        return None
    if any((other, one) in pairs for one, other in pairs):
        return None
    if any(many < 1 or many > capacity(ties, one, other) for one, other, many in flow):
        return None
    for place in letters_upto(n):
        goes = sum(many for one, other, many in flow if one == place)
        comes = sum(many for one, other, many in flow if other == place)
        if place == letter:
            worth = goes - comes
        elif place != letter.swapcase() and goes != comes:
            return None
    return worth if worth >= 0 else None


def sorted_flow(parts):
    return tuple(sorted(parts, key=lambda part: (rank(part[0]), rank(part[1]))))


def change_by_the_book(n, change):
    letter, side = change
    words = []
    for other in "abcd"[:n]:
        word = other
        if other != letter.lower() and other in side:
            word = word + letter
        if other != letter.lower() and other.upper() in side:
            word = letter.swapcase() + word
        words.append(word)
    return tuple(words)


def row_by_the_book(retelling, rings):
    """The rings retold."""
    return tuple(ring_by_the_book(retold_by_the_book(retelling, ring)) for ring in rings)


def exchanges(n):
    """Of each letter and its contrary one, once, in each order."""
    for order in itertools.permutations("abcd"[:n]):
        for letters in itertools.product(*[(letter, letter.swapcase()) for letter in order]):
            yield letters


def sides_by_the_book(n, letter):
    """All sides for a letter, each rising."""
    others = [other for other in letters_upto(n) if other.lower() != letter.lower()]
    for many in range(len(others) + 1):
        for chosen in itertools.combinations(others, many):
            yield tuple(sorted(chosen + (letter,), key=rank))


def leaving(ties, side):
    return sum(many for (one, other), many in ties.items() if (one in side) != (other in side))


def shorter_by_the_book(n, rings):
    ties = ties_by_the_book(rings)
    for letter in "abcd"[:n]:
        sides = sorted(sides_by_the_book(n, letter), key=lambda side: (leaving(ties, side), len(side)))
        fall = "".join(rings).lower().count(letter) - leaving(ties, sides[0])
        if fall > 0:
            return (letter, sides[0]), fall
    return None


def alphabet_by_chance(source, n, steps):
    """Changes and an exchange one behind the other."""
    alphabet = source.choice(list(exchanges(n)))
    for again in range(steps):
        alphabet = then_by_the_book(
            alphabet, change_by_the_book(n, change_by_chance(source, n)))
    return alphabet


def step_by_the_book(n, step):
    return step[1] if step[0] == "exchange" else change_by_the_book(n, step[1:])


def road_by_the_book(n, road):
    told = tuple("abcd"[:n])
    for step in road:
        told = then_by_the_book(told, step_by_the_book(n, step))
    return told


def is_change_by_the_book(n, change):
    letter, side = change
    return letter in list(letters_upto(n)) and side in list(sides_by_the_book(n, letter))


def fault_by_the_book(n, rings, paper):
    """The number that the refusal has, or None where the paper holds."""
    changes, flows = paper
    row = rings
    for number, change in enumerate(changes):
        if not is_change_by_the_book(n, change):
            return number
        behind = row_by_the_book(change_by_the_book(n, change), row)
        if len("".join(behind)) >= len("".join(row)):
            return number
        row = behind
    if len(flows) != n:
        return len(changes)
    ties = ties_by_the_book(row)
    for number, letter in enumerate("abcd"[:n]):
        count = "".join(row).lower().count(letter)
        if worth_by_the_book(n, ties, letter, flows[number]) != count:
            return len(changes) + number
    return None


def shortest_by_the_book(n, rings):
    """The row to which the changes of [17] lead."""
    shorter = shorter_by_the_book(n, rings)
    while shorter is not None:
        rings = row_by_the_book(change_by_the_book(n, shorter[0]), rings)
        shorter = shorter_by_the_book(n, rings)
    return rings


def end_of_road(n, rings, road):
    """The row behind the last step, the rings retold step by step."""
    for step in road:
        rings = row_by_the_book(step_by_the_book(n, step), rings)
    return rings


def is_road_by_the_book(n, road):
    """A tuple of steps, each a change or an exchange of n."""
    if type(road) is not tuple or any(type(step) is not tuple for step in road):
        return False
    changes = [step[1:] for step in road if step[0] == "change"]
    letters = [step[1:] for step in road if step[0] == "exchange"]
    return (len(changes) + len(letters) == len(road)
            and all(len(change) == 2 and is_change_by_the_book(n, change) for change in changes)
            and all(len(step) == 1 and step[0] in list(exchanges(n)) for step in letters))


@functools.lru_cache(maxsize=None)
def form_by_the_book(n, ring):
    """Of the rings that come by all exchanges of n the first in order."""
    return min([ring_by_the_book(retold_by_the_book(letters, ring)) for letters in exchanges(n)], key=in_order)


def all_neighbours(n, ring):
    """All rings of the same length that come by any change of n, of letters that stand nowhere too."""
    for letter in letters_upto(n):
        for side in sides_by_the_book(n, letter):
            behind = row_by_the_book(change_by_the_book(n, (letter, side)), (ring,))[0]
            if len(behind) == len(ring):
                yield behind


def forms_by_the_book(n, ring):
    forms = [form_by_the_book(n, ring)]
    for form in forms:
        for behind in all_neighbours(n, form):
            other = form_by_the_book(n, behind)
            if other not in forms:
                forms.append(other)
    return sorted(forms, key=in_order)


def plain_words(n, longest):
    """All plain words of n with at most so many letters."""
    for size in range(longest + 1):
        for signs in itertools.product(letters_upto(n), repeat=size):
            if is_plain(signs):
                yield "".join(signs)


def chance(seed):
    return random.Random(seed)


def text_by_chance(source, n, size):
    return "".join(source.choice(letters_upto(n)) for place in range(size))


def word_by_chance(source, n, size):
    word = ""
    while len(word) < size:
        letter = source.choice(letters_upto(n))
        if not word or word[-1] != letter.swapcase():
            word += letter
    return word


def row_by_chance(source, n, most=24):
    """At most four rings with at most so many letters in all, some without letters, some told twice."""
    row = []
    for again in range(source.randint(0, 4)):
        ring = ring_by_the_book(word_by_chance(source, n, source.randint(0, most // 2)))
        if row and source.random() < 0.2:
            ring = source.choice(row)
        if len("".join(row)) + len(ring) <= most:
            row.append(ring)
    return tuple(row)


def ties_by_chance(source, n, most=48):
    """Ties as they may be handed in, such as no ring makes among them."""
    ties = {}
    share = source.random()
    for pair in itertools.combinations(letters_upto(n), 2):
        if source.random() < share:
            ties[pair] = source.randint(1, most)
    return ties


def ties_cases(seed, many):
    """n and ties: none, those of rings, any others."""
    source = chance(seed)
    for n in range(1, 5):
        yield n, {}
    for again in range(many):
        n = source.randint(1, 4)
        yield n, ties_by_the_book(row_by_chance(source, n))
        yield n, ties_by_chance(source, n, source.choice((1, 2, 48)))


def change_by_chance(source, n):
    letter = source.choice(letters_upto(n))
    return letter, source.choice(list(sides_by_the_book(n, letter)))


def step_by_chance(source, n):
    if source.random() < 0.4:
        return ("exchange", source.choice(list(exchanges(n))))
    return ("change",) + change_by_chance(source, n)


def road_by_chance(source, n, most=6):
    return tuple(step_by_chance(source, n) for again in range(source.randint(0, most)))


def long_alphabet(times):
    """An alphabet of three letters: so often a is told by ab, b by c, c by a (nothing falls away of such words)."""
    words = tuple("abc")
    for again in range(times):
        words = tuple("".join({"a": "ab", "b": "c", "c": "a"}[letter] for letter in word) for word in words)
    return words


def refusal_of(case, kind, function, *handed):
    """The refusal, which must be of just this class."""
    with case.assertRaises(kind) as caught:
        function(*handed)
    case.assertIs(type(caught.exception), kind)
    return caught.exception
