import unittest

import helping
from newletters.forms import form_of, letters_to_form
from newletters.retellings import ring_retold
from newletters.rings import is_ring, ring_of


def rings_upto(n, longest):
    return [word for word in helping.plain_words(n, longest) if helping.ring_by_the_book(word) == word]


def rings_by_chance(seed, many, most=12):
    source = helping.chance(seed)
    for again in range(many):
        n = source.randint(1, 4)
        yield n, helping.ring_by_the_book(helping.word_by_chance(source, n, source.randint(0, most)))


class FormOf(unittest.TestCase):
    def test_without_letters(self):
        self.assertEqual(form_of(""), "")

    def test_one_letter(self):
        for letter in "aAbBcCdD":
            self.assertEqual(form_of(letter), "a")
            self.assertEqual(form_of(letter * 5), "aaaaa")

    def test_some(self):
        self.assertEqual(form_of("ab"), "ab")
        self.assertEqual(form_of("AB"), "ab")
        self.assertEqual(form_of("CD"), "ab")
        self.assertEqual(form_of("bD"), "ab")
        self.assertEqual(form_of("abb"), "aab")
        self.assertEqual(form_of("aBAb"), "abAB")
        self.assertEqual(form_of("cdCD"), "abAB")
        self.assertEqual(form_of("bdc"), "abc")
        self.assertEqual(form_of("ADBC"), "abcd")
        self.assertEqual(form_of("aabcBC"), "aabcBC")
        self.assertEqual(form_of("bccddd"), "aaabcc")

    def test_another_begin_is_the_first(self):
        self.assertEqual(form_of("abacc"), "aabcb")
        self.assertEqual(form_of("abcbDDD"), "aaabcdc")

    def test_in_the_order_of_letters_and_not_of_signs(self):
        # In Python's own order of texts aabAB would be ahead of aabaB.
        self.assertEqual(form_of("aabaB"), "aabaB")
        self.assertEqual(form_of("abABB"), "aabAB")
        self.assertEqual(form_of("aabAbb"), "aabAbb")
        self.assertEqual(form_of("aabbAb"), "aabaBB")

    def test_all_short_ones_against_all_exchanges(self):
        for n, longest in ((1, 8), (2, 5), (3, 3)):
            for ring in rings_upto(n, longest):
                self.assertEqual(form_of(ring), helping.form_by_the_book(4, ring), ring)

    def test_by_chance_against_all_exchanges(self):
        self.assertEqual(len(list(helping.exchanges(4))), 384)
        for n, ring in rings_by_chance(121, 120):
            form = form_of(ring)
            self.assertIs(type(form), str)
            self.assertEqual(form, helping.form_by_the_book(4, ring), ring)

    def test_the_form_of_a_form_is_itself(self):
        for n, ring in rings_by_chance(122, 200, 16):
            form = form_of(ring)
            self.assertEqual(form_of(form), form)
            self.assertIs(is_ring(form), True)
            self.assertEqual(len(form), len(ring))

    def test_an_exchanged_ring_has_the_same(self):
        source = helping.chance(123)
        exchanges = list(helping.exchanges(4))
        for n, ring in rings_by_chance(124, 150, 16):
            other = helping.ring_by_the_book(helping.retold_by_the_book(source.choice(exchanges), ring))
            self.assertEqual(form_of(other), form_of(ring), (ring, other))

    def test_letters_come_up_in_order(self):
        for n, ring in rings_by_chance(125, 150, 16):
            form = form_of(ring)
            first = [form.lower().find(letter) for letter in "abcd" if letter in form.lower()]
            self.assertEqual(first, sorted(first))
            self.assertEqual("".join(form[place] for place in first), "abcd"[:len(first)])

    def test_what_is_told_is_handed_on(self):
        alphabet = helping.long_alphabet(18)
        ring = ring_of(alphabet[0])
        self.assertGreater(len(ring), 1000)
        form = form_of(ring)
        self.assertEqual(form_of(form), form)
        self.assertEqual(form_of(ring_retold(("D", "b", "A"), ring)), form)
        self.assertEqual(ring_retold(letters_to_form(4, ring), ring), form)


class LettersToForm(unittest.TestCase):
    def look(self, n, ring):
        letters = letters_to_form(n, ring)
        self.assertIs(type(letters), tuple)
        self.assertIn(letters, list(helping.exchanges(n)), ring)
        made = helping.ring_by_the_book(helping.retold_by_the_book(letters, ring))
        self.assertEqual(made, form_of(ring), ring)
        self.assertEqual(ring_retold(letters, ring), made)

    def test_letters_that_stand_nowhere_too(self):
        for n in range(1, 5):
            self.look(n, "")
            for letter in helping.letters_upto(n):
                self.look(n, letter)
                self.look(n, letter * 3)
        for ring in ("CD", "bD", "cdCD", "BBd", "BD", "AC"):
            self.look(4, ring)

    def test_all_short_ones(self):
        for n, longest in ((1, 6), (2, 4), (3, 3), (4, 2)):
            for ring in rings_upto(n, longest):
                for more in range(n, 5):
                    self.look(more, ring)

    def test_by_chance(self):
        for n, ring in rings_by_chance(126, 200, 20):
            for more in range(n, 5):
                self.look(more, ring)

    def test_asked_again_behind_another_one(self):
        asked = [(n, ring) for n, ring in rings_by_chance(127, 40)]
        first = [(letters_to_form(n, ring), form_of(ring)) for n, ring in asked]
        for (n, ring), told in list(zip(asked, first))[::-1]:
            self.assertEqual((letters_to_form(n, ring), form_of(ring)), told)


if __name__ == "__main__":
    unittest.main()
