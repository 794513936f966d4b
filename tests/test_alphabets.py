import itertools
import unittest

import helping
from newletters.alphabets import leading_back, look_alphabet
from newletters.errors import NoAlphabet
from newletters.retellings import told_same, told_then, turned_by
from newletters.webs import web_of

LONGEST = {1: 8, 2: 8, 3: 8, 4: 5}

# Alphabets whose way back has much longer words.
FAR_BACK = (
    (("bbAABBB", "bbbaaaBB"), 22),
    (("CCaaabCb", "CbCAAcc", "BCaaabCb"), 46),
    (("CCbbccAc", "AACbccAc", "AACBBcc"), 79),
    (("Badb", "Dcabb", "Dcaba", "ddbAD"), 44),
    (("aaccB", "bCabC", "AcdBB", "bdBB"), 52),
)

# No alphabets, and their webs.
NONE = (
    # A word without letters.
    (("",), ((None,),)),
    (("a", ""), ((0, None),)),
    (("", "B"), ((None, 0),)),
    (("", ""), ((None, None),)),
    (("ab", ""), ((1, None), (None, 0))),
    (("a", "", "c"), ((0, None, 0),)),
    (("d", "c", "b", ""), ((None, 0, 0, 0),)),
    # One that stands twice, once turned back.
    (("a", "a"), ((0, None),)),
    (("b", "B"), ((None, 0),)),
    (("ab", "BA"), ((1, None), (None, 0))),
    (("c", "ab", "c"), ((1, None, 0), (None, 0, None))),
    (("a", "b", "c", "A"), ((0, 0, 0, None),)),
    # One told over and over.
    (("aa",), ((1,), (0,))),
    (("AA",), ((1,), (0,))),
    (("aaa",), ((1,), (2,), (0,))),
    (("aa", "b"), ((1, 0), (0, None))),
    (("a", "bb"), ((0, 1), (None, 0))),
    (("abab", "b"), ((1, 0), (None, 2), (0, None))),
    # A letter that the web doesn't read, at one place.
    (("a", "aa"), ((0, None),)),
    (("a", "b", "ab"), ((0, 0, None),)),
    (("B", "a", "abA"), ((0, 0, None),)),
    (("b", "c", "d", "bcd"), ((None, 0, 0, 0),)),
    # More places than one.
    (("ab", "ba"), ((1, 2), (None, 0), (0, None))),
    (("abA", "b"), ((1, 0), (None, 1))),
    (("a", "bab"), ((0, 1), (2, None), (None, 0))),
    (("aa", "ab"), ((1, None), (0, 0))),
    (("ab", "bc", "ca"), ((1, 3, 2), (None, 0, None), (0, None, None), (None, None, 0))),
)


def step_by_chance(source, n):
    """A retelling and the one that leads it back: an exchange, or letters but one with that one beside them."""
    if n == 1 or source.random() < 0.3:
        letters = source.choice(list(helping.exchanges(n)))
        return letters, tuple(next(sign for sign in helping.letters_upto(n)
                                   if helping.retold_by_the_book(letters, sign) == letter) for letter in "abcd"[:n])
    by = source.choice(helping.letters_upto(n))
    there, back = [], []
    for letter in "abcd"[:n]:
        ahead = source.choice(("", by.swapcase())) if letter != by.lower() else ""
        behind = source.choice(("", by)) if letter != by.lower() else ""
        there.append(ahead + letter + behind)
        back.append(ahead.swapcase() + letter + behind.swapcase())
    return tuple(there), tuple(back)


def alphabet_by_chance(source, n, steps):
    """An alphabet within the bounds and the one that leads back, made in step with it."""
    alphabet = back = tuple("abcd"[:n])
    for again in range(steps):
        there, step_back = step_by_chance(source, n)
        longer = helping.then_by_the_book(alphabet, there)
        if max(map(len, longer)) <= LONGEST[n]:
            alphabet, back = longer, helping.then_by_the_book(step_back, back)
    return alphabet, back


def is_pair_of_two(one, other):
    """Two words are an alphabet of two letters just where both, and both turned back, joined, have this ring."""
    both = one + other + helping.backwards(one) + helping.backwards(other)
    ring = helping.ring_by_the_book(helping.taken_out(both))
    return ring in (helping.ring_by_the_book("abAB"), helping.ring_by_the_book("baBA"))


class Case(unittest.TestCase):
    def refused(self, retelling):
        n = len(retelling)
        for function in (look_alphabet, leading_back):
            refusal = helping.refusal_of(self, NoAlphabet, function, retelling)
            self.assertEqual(refusal.web, web_of(n, retelling), retelling)
            self.assertNotEqual(refusal.web, ((0,) * n,), retelling)

    def led_back(self, alphabet):
        self.assertIs(look_alphabet(alphabet), True, alphabet)
        n = len(alphabet)
        back = leading_back(alphabet)
        self.assertIs(type(back), tuple)
        self.assertTrue(all(type(word) is str for word in back))
        self.assertEqual(helping.then_by_the_book(alphabet, back), told_same(n), alphabet)
        self.assertEqual(helping.then_by_the_book(back, alphabet), told_same(n), alphabet)
        self.assertIs(look_alphabet(back), True, alphabet)
        self.assertEqual(leading_back(back), alphabet)
        return back

    def look(self, retelling, is_alphabet):
        if is_alphabet:
            self.led_back(retelling)
        else:
            self.refused(retelling)


class Alphabets(Case):
    def test_the_same(self):
        for n in range(1, 5):
            self.assertEqual(self.led_back(told_same(n)), told_same(n))

    def test_some(self):
        self.assertEqual(self.led_back(("A",)), ("A",))
        self.assertEqual(self.led_back(("ab", "b")), ("aB", "b"))
        self.assertEqual(self.led_back(("ab", "a")), ("b", "Ba"))
        self.assertEqual(self.led_back(("aba", "ba")), ("aB", "bbA"))
        self.assertEqual(self.led_back(("b", "c", "A")), ("C", "a", "b"))
        self.assertEqual(self.led_back(("abA", "a", "cb")), ("b", "Bab", "cBAb"))
        self.assertEqual(self.led_back(("D", "a", "Bc", "b")), ("b", "d", "dc", "A"))

    def test_all_exchanges(self):
        for n in range(1, 5):
            for letters in helping.exchanges(n):
                back = self.led_back(letters)
                self.assertTrue(all(len(word) == 1 for word in back))

    def test_turned_by_a_word(self):
        source = helping.chance(51)
        for n in range(1, 5):
            for size in range((LONGEST[n] - 1) // 2 + 1):
                word = helping.word_by_chance(source, n, size)
                self.assertEqual(self.led_back(turned_by(n, word)), turned_by(n, helping.backwards(word)))

    def test_several_one_behind_the_other(self):
        source = helping.chance(52)
        for n in range(1, 5):
            for again in range(60):
                alphabet, back = alphabet_by_chance(source, n, source.randint(1, 12))
                self.assertEqual(self.led_back(alphabet), back)

    def test_way_back_much_longer(self):
        for alphabet, longest in FAR_BACK:
            back = self.led_back(alphabet)
            self.assertEqual(max(map(len, back)), longest)

    def test_what_is_told_is_handed_on(self):
        growing = back = told_same(3)
        for again in range(9):
            growing = told_then(growing, ("ab", "c", "a"))
            back = told_then(("c", "Ca", "b"), back)
        self.assertEqual(leading_back(growing), back)
        self.assertEqual(leading_back(back), growing)
        growing = ("ab", "a")
        for again in range(13):
            growing = told_then(growing, ("ab", "a"))
        self.assertEqual(len(growing[0]), 987)
        self.assertEqual(told_then(growing, leading_back(growing)), ("a", "b"))


class NoAlphabets(Case):
    def test_some(self):
        for retelling, web in NONE:
            self.refused(retelling)
            self.assertEqual(helping.refusal_of(self, NoAlphabet, look_alphabet, retelling).web, web, retelling)
            self.assertEqual(helping.refusal_of(self, NoAlphabet, leading_back, retelling).web, web, retelling)

    def test_one_word_twice_in_an_alphabet(self):
        source = helping.chance(53)
        for again in range(60):
            n = source.randint(2, 4)
            words = list(alphabet_by_chance(source, n, 8)[0])
            one, other = source.sample(range(n), 2)
            words[one] = source.choice((words[other], helping.backwards(words[other]), ""))
            self.refused(tuple(words))

    def test_one_word_told_twice_over_in_an_alphabet(self):
        source = helping.chance(54)
        for again in range(60):
            n = source.randint(1, 4)
            words = list(alphabet_by_chance(source, n, 5)[0])
            place = source.randrange(n)
            words[place] = helping.taken_out(words[place] * 2)
            if len(words[place]) <= LONGEST[n]:
                self.refused(tuple(words))


class EitherWay(Case):
    def test_all_short_words_of_one_letter(self):
        for word in helping.plain_words(1, 8):
            self.look((word,), word in ("a", "A"))

    def test_all_short_pairs_of_two_letters(self):
        for pair in itertools.product(helping.plain_words(2, 3), repeat=2):
            self.look(pair, is_pair_of_two(*pair))

    def test_pairs_by_chance(self):
        source = helping.chance(55)
        for again in range(150):
            pair = alphabet_by_chance(source, 2, 10)[0]
            self.assertTrue(is_pair_of_two(*pair))
            self.led_back(pair)
            place = source.randrange(2)
            other = helping.taken_out(pair[place] + source.choice("aAbB"))
            pair = pair[:place] + (other,) + pair[place + 1:]
            self.look(pair, is_pair_of_two(*pair))

    def test_just_where_the_web_is_one_place_with_all_letters(self):
        source = helping.chance(56)
        for again in range(300):
            n = source.randint(2, 4)
            retelling = tuple(helping.word_by_chance(source, n, source.choice((0, 1, 1, 1, 2, 2, 3))) for k in range(n))
            self.look(retelling, web_of(n, retelling) == ((0,) * n,))

    def test_asked_again_behind_another_one(self):
        asked = (("ab", "b"), ("b", "ab"), ("a", "ba"), ("A",), ("b", "c", "A"), ("ab", "b", "c"))
        first = [leading_back(alphabet) for alphabet in asked]
        for one, other in itertools.permutations(range(len(asked)), 2):
            self.assertEqual(leading_back(asked[one]), first[one])
            self.assertEqual(leading_back(asked[other]), first[other])
            self.assertEqual(leading_back(asked[one]), first[one])
        self.refused(("ab", "ba"))
        self.assertIs(look_alphabet(("ab", "b")), True)
        self.assertEqual(leading_back(("ab", "b")), first[0])
        self.refused(("ab", "ba"))
        self.refused(("aa",))
        self.refused(("ab", "ba"))


if __name__ == "__main__":
    unittest.main()
