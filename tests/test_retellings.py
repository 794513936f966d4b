import itertools
import unittest

import helping
from newletters.retellings import retold, ring_retold, told_same, told_then, turned_by
from newletters.rings import ring_of


def retelling_by_chance(source, n, longest=5):
    return tuple(helping.word_by_chance(source, n, source.randint(0, longest)) for place in range(n))


class Retold(unittest.TestCase):
    def test_some(self):
        self.assertEqual(retold(("ab", "b"), "a"), "ab")
        self.assertEqual(retold(("ab", "b"), "ba"), "bab")
        self.assertEqual(retold(("aa",), "aaa"), "aaaaaa")

    def test_the_word_without_letters(self):
        self.assertEqual(retold(("ab", "b"), ""), "")

    def test_contraries(self):
        self.assertEqual(retold(("ab", "b"), "A"), "BA")
        self.assertEqual(retold(("abb", "B"), "AbA"), "BBABBBA")
        self.assertEqual(retold(("bC", "c", "ab"), "C"), "BA")

    def test_told_by_words_without_letters(self):
        self.assertEqual(retold(("", "b"), "abAB"), "")
        self.assertEqual(retold(("", "ba"), "abAb"), "baba")
        self.assertEqual(retold(("", ""), "abAB"), "")

    def test_words_that_fall_away_beside_one_another(self):
        self.assertEqual(retold(("ab", "B"), "ab"), "a")
        self.assertEqual(retold(("abc", "CB", "a"), "abA"), "aCBA")
        self.assertEqual(retold(("ab", "BA"), "ab"), "")
        self.assertEqual(retold(("ab", "ab"), "aB"), "")

    def test_by_the_book(self):
        source = helping.chance(21)
        for again in range(400):
            n = source.randint(1, 4)
            retelling = retelling_by_chance(source, n)
            word = helping.word_by_chance(source, n, source.randint(0, 12))
            self.assertEqual(retold(retelling, word), helping.retold_by_the_book(retelling, word))

    def test_at_the_bounds(self):
        source = helping.chance(22)
        for n, size in ((1, 8), (2, 8), (3, 8), (4, 5)):
            retelling = tuple(helping.word_by_chance(source, n, size) for place in range(n))
            word = helping.word_by_chance(source, n, 40)
            self.assertEqual(retold(retelling, word), helping.retold_by_the_book(retelling, word))

    def test_one_then_another_of_another_n_then_the_first_again(self):
        asked = [(("aa",), "a"), (("ab", "b"), "aB"), (("b", "c", "a"), "Cab"), (("d", "ab", "c", "B"), "aDb")]
        first = [retold(*question) for question in asked]
        self.assertEqual(first, ["aa", "a", "Abc", "dbab"])
        for one, other in itertools.permutations(range(4), 2):
            self.assertEqual(retold(*asked[one]), first[one])
            self.assertEqual(retold(*asked[other]), first[other])
            self.assertEqual(retold(*asked[one]), first[one])


class RingRetold(unittest.TestCase):
    def test_some(self):
        self.assertEqual(ring_retold(("ab", "b"), "a"), "ab")
        self.assertEqual(ring_retold(("b", "a"), "ab"), "ab")
        self.assertEqual(ring_retold(("abA", "a"), "a"), "b")
        self.assertEqual(ring_retold(("ba", "A"), "ab"), "b")
        self.assertEqual(ring_retold(("ab", "BA"), "ab"), "")
        self.assertEqual(ring_retold(("b", "a"), ""), "")

    def test_the_ring_of_the_word_retold(self):
        source = helping.chance(23)
        for again in range(300):
            n = source.randint(1, 4)
            retelling = retelling_by_chance(source, n)
            ring = ring_of(helping.word_by_chance(source, n, source.randint(0, 8)))
            self.assertEqual(ring_retold(retelling, ring), ring_of(helping.retold_by_the_book(retelling, ring)))


class ToldThen(unittest.TestCase):
    def test_some(self):
        self.assertEqual(told_then(("ab", "b"), ("a", "ba")), ("aba", "ba"))
        self.assertEqual(told_then(("a", "ba"), ("ab", "b")), ("ab", "bab"))
        self.assertEqual(told_then(("", "B"), ("ab", "a")), ("", "A"))

    def test_against_retold_twice(self):
        source = helping.chance(24)
        for again in range(300):
            n = source.randint(1, 4)
            one, other = retelling_by_chance(source, n), retelling_by_chance(source, n)
            both = told_then(one, other)
            self.assertIs(type(both), tuple)
            self.assertEqual(len(both), n)
            word = helping.word_by_chance(source, n, source.randint(0, 10))
            self.assertEqual(retold(both, word), retold(other, retold(one, word)))
            self.assertEqual(both, tuple(helping.retold_by_the_book(other, told) for told in one))

    def test_what_is_told_is_handed_on(self):
        growing = ("ab", "a")
        for again in range(20):
            growing = told_then(growing, ("ab", "a"))
        self.assertEqual(len(growing[0]), 28657)
        self.assertEqual(ring_retold(("A", "B"), growing[0]), ring_of(growing[0].swapcase()))


class ToldSame(unittest.TestCase):
    def test_each_n(self):
        self.assertEqual([told_same(n) for n in range(1, 5)],
                         [("a",), ("a", "b"), ("a", "b", "c"), ("a", "b", "c", "d")])

    def test_each_word_stays(self):
        for n in range(1, 5):
            for word in helping.plain_words(n, 3):
                self.assertEqual(retold(told_same(n), word), word)

    def test_beside_another_one(self):
        source = helping.chance(25)
        for again in range(40):
            n = source.randint(1, 4)
            retelling = retelling_by_chance(source, n)
            self.assertEqual(told_then(retelling, told_same(n)), retelling)
            self.assertEqual(told_then(told_same(n), retelling), retelling)


class TurnedBy(unittest.TestCase):
    def test_some(self):
        self.assertEqual(turned_by(1, "a"), ("a",))
        self.assertEqual(turned_by(2, "a"), ("a", "abA"))
        self.assertEqual(turned_by(2, "aB"), ("aBabA", "abA"))
        self.assertEqual(turned_by(3, "C"), ("Cac", "Cbc", "c"))
        self.assertEqual(turned_by(4, "D"), ("Dad", "Dbd", "Dcd", "d"))

    def test_by_the_word_without_letters(self):
        for n in range(1, 5):
            self.assertEqual(turned_by(n, ""), told_same(n))

    def test_by_it_turned_back_behind_it(self):
        source = helping.chance(26)
        for again in range(100):
            n = source.randint(1, 4)
            word = helping.word_by_chance(source, n, source.randint(0, 6))
            there, back = turned_by(n, word), turned_by(n, helping.backwards(word))
            self.assertEqual(told_then(there, back), told_same(n))
            self.assertEqual(told_then(back, there), told_same(n))

    def test_each_word_is_turned(self):
        source = helping.chance(27)
        for again in range(200):
            n = source.randint(1, 4)
            turner = helping.word_by_chance(source, n, source.randint(0, 6))
            word = helping.word_by_chance(source, n, source.randint(0, 8))
            whole = helping.taken_out(turner + word + helping.backwards(turner))
            self.assertEqual(retold(turned_by(n, turner), word), whole)
            self.assertEqual(ring_retold(turned_by(n, turner), ring_of(word)), ring_of(word))

    def test_is_a_tuple_of_plain_words(self):
        for n in range(1, 5):
            told = turned_by(n, "aa")
            self.assertIs(type(told), tuple)
            self.assertTrue(all(helping.is_plain(word) for word in told))


if __name__ == "__main__":
    unittest.main()
