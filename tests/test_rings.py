import unittest

import helping
from newletters.rings import is_ring, ring_of, wound_by


def words_by_chance(seed, many):
    source = helping.chance(seed)
    for again in range(many):
        n = source.randint(1, 4)
        word = helping.word_by_chance(source, n, source.randint(0, 14))
        ahead = helping.word_by_chance(source, n, source.randint(0, 13))
        part = word * source.choice((1, 1, 2))
        yield helping.taken_out(ahead + part + helping.backwards(ahead))


class RingOf(unittest.TestCase):
    def test_the_word_without_letters(self):
        self.assertEqual(ring_of(""), "")

    def test_one_letter(self):
        for letter in helping.ALL_LETTERS:
            self.assertEqual(ring_of(letter), letter)

    def test_ends_taken_off(self):
        self.assertEqual(ring_of("abA"), "b")
        self.assertEqual(ring_of("abbA"), "bb")
        self.assertEqual(ring_of("BacdAb"), "cd")
        self.assertEqual(ring_of("abcBA"), "c")
        self.assertEqual(ring_of("abABA"), "A")
        self.assertEqual(ring_of("aabAB"), "aabAB")

    def test_a_part_told_again_and_again(self):
        self.assertEqual(ring_of("baba"), "abab")
        self.assertEqual(ring_of("aaaa"), "aaaa")
        self.assertEqual(ring_of("BaBaBa"), "aBaBaB")
        self.assertEqual(ring_of("cbabacbabacbaba"), "abacbabacbabacb")

    def test_the_first_in_order(self):
        self.assertEqual(ring_of("BA"), "AB")
        self.assertEqual(ring_of("Ba"), "aB")
        self.assertEqual(ring_of("Ab"), "Ab")
        self.assertEqual(ring_of("bAA"), "AAb")
        self.assertEqual(ring_of("DcBa"), "aDcB")
        self.assertEqual(ring_of("DCb"), "bDC")
        self.assertEqual(ring_of("CaBAc"), "B")
        self.assertEqual(ring_of("ababaab"), "aababab")

    def test_begun_at_each_letter_of_the_round(self):
        for word in ("aabAB", "abAcB", "aaab", "abab", "aBaBab", "cdCD", "A" * 7, "abaabaaab"):
            told = {ring_of(word[k:] + word[:k]) for k in range(len(word))}
            self.assertEqual(told, {helping.ring_by_the_book(word)}, word)

    def test_read_backwards_is_another_one(self):
        self.assertNotEqual(ring_of("aabAB"), ring_of(helping.backwards("aabAB")))

    def test_all_short_words(self):
        for n, longest in ((1, 8), (2, 7), (3, 5), (4, 4)):
            for word in helping.plain_words(n, longest):
                self.assertEqual(ring_of(word), helping.ring_by_the_book(word), word)

    def test_longer_words(self):
        for word in words_by_chance(11, 600):
            self.assertEqual(ring_of(word), helping.ring_by_the_book(word), word)

    def test_words_with_one_ring(self):
        source = helping.chance(12)
        for word in words_by_chance(13, 200):
            turner = helping.word_by_chance(source, 4, source.randint(0, 6))
            turned = helping.taken_out(turner + word + helping.backwards(turner))
            self.assertEqual(ring_of(turned), ring_of(word))

    def test_a_very_long_word(self):
        self.assertEqual(ring_of("b" + "a" * 200000), "a" * 200000 + "b")
        self.assertEqual(ring_of("ab" * 50000 + "aab" + "ab" * 50000), "aab" + "ab" * 100000)


class IsRing(unittest.TestCase):
    def test_some(self):
        for ring in ("", "a", "A", "D", "ab", "aB", "Ab", "AB", "aabAB", "abab"):
            self.assertIs(is_ring(ring), True, ring)
        for word in ("ba", "Ba", "abA", "BA", "baba", "aabA", "aba"):
            self.assertIs(is_ring(word), False, word)

    def test_just_where_a_word_is_its_own_ring(self):
        for word in helping.plain_words(3, 5):
            self.assertIs(is_ring(word), helping.ring_by_the_book(word) == word, word)

    def test_what_is_told_as_a_ring_is_one(self):
        for word in words_by_chance(14, 300):
            self.assertIs(is_ring(ring_of(word)), True)


class WoundBy(unittest.TestCase):
    def look(self, word):
        winder = wound_by(word)
        self.assertIs(type(winder), str)
        self.assertTrue(helping.is_plain(winder), (word, winder))
        whole = helping.taken_out(winder + helping.ring_by_the_book(word) + helping.backwards(winder))
        self.assertEqual(whole, word, winder)
        self.assertLessEqual(set(winder.lower()), set(word.lower()))

    def test_some(self):
        for word in ("", "a", "ba", "abA", "abbA", "BacdAb", "baba", "aaaa", "DcBa", "cbaCBabAC"):
            self.look(word)

    def test_all_short_words(self):
        for word in helping.plain_words(3, 5):
            self.look(word)

    def test_longer_words(self):
        for word in words_by_chance(15, 400):
            self.look(word)

    def test_rings_and_rings_begun_elsewhere(self):
        for word in words_by_chance(16, 60):
            ring = ring_of(word)
            for begin in range(len(ring) + 1):
                self.look(ring[begin:] + ring[:begin])


if __name__ == "__main__":
    unittest.main()
