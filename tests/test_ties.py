import itertools
import unittest

import helping
from newletters.rings import ring_of
from newletters.ties import count_of, ties_of


class TiesOf(unittest.TestCase):
    def test_no_rings_and_rings_without_letters(self):
        for rings in ((), ("",), ("", ""), ("", "", "", "")):
            self.assertEqual(ties_of(rings), {})

    def test_a_ring_of_one_letter(self):
        for letter in "abcd":
            pair = (letter, letter.upper())
            self.assertEqual(ties_of((letter,)), {pair: 1})
            self.assertEqual(ties_of((letter.upper(),)), {pair: 1})
            self.assertEqual(ties_of(("", letter, "")), {pair: 1})

    def test_letters_more_than_once(self):
        self.assertEqual(ties_of(("aa",)), {("a", "A"): 2})
        self.assertEqual(ties_of(("AAA",)), {("a", "A"): 3})
        self.assertEqual(ties_of(("aab",)), {("a", "A"): 1, ("a", "B"): 1, ("A", "b"): 1})
        self.assertEqual(ties_of(("abab",)), {("a", "B"): 2, ("A", "b"): 2})
        self.assertEqual(ties_of(("abAB",)), {("a", "B"): 1, ("a", "b"): 1, ("A", "b"): 1, ("A", "B"): 1})
        self.assertEqual(ties_of(("aabbAB",)),
                         {("a", "A"): 1, ("a", "B"): 1, ("b", "B"): 1, ("a", "b"): 1, ("A", "B"): 1, ("A", "b"): 1})

    def test_the_keys_keep_the_order_of_letters(self):
        self.assertEqual(ties_of(("ab",)), {("a", "B"): 1, ("A", "b"): 1})
        self.assertEqual(ties_of(("aB",)), {("a", "b"): 1, ("A", "B"): 1})
        self.assertEqual(ties_of(("Ab",)), {("A", "B"): 1, ("a", "b"): 1})
        self.assertEqual(ties_of(("AB",)), {("A", "b"): 1, ("a", "B"): 1})
        self.assertEqual(ties_of(("cD",)), {("c", "d"): 1, ("C", "D"): 1})
        self.assertEqual(ties_of(("bC",)), {("b", "c"): 1, ("B", "C"): 1})
        self.assertEqual(ties_of(("adc",)), {("a", "D"): 1, ("C", "d"): 1, ("A", "c"): 1})

    def test_several_rings(self):
        self.assertEqual(ties_of(("a", "b")), {("a", "A"): 1, ("b", "B"): 1})
        self.assertEqual(ties_of(("ab", "", "aB")),
                         {("a", "B"): 1, ("A", "b"): 1, ("a", "b"): 1, ("A", "B"): 1})
        self.assertEqual(ties_of(("ab", "ab")), {("a", "B"): 2, ("A", "b"): 2})
        self.assertEqual(ties_of(("a", "a", "A")), {("a", "A"): 3})
        self.assertEqual(ties_of(("ab", "AB")), {("a", "B"): 2, ("A", "b"): 2})

    def test_by_the_book(self):
        source = helping.chance(61)
        for again in range(400):
            rings = helping.row_by_chance(source, source.randint(1, 4))
            ties = ties_of(rings)
            self.assertIs(type(ties), dict)
            self.assertEqual(ties, helping.ties_by_the_book(rings), rings)
            self.assertTrue(all(type(many) is int and many >= 1 for many in ties.values()))
            self.assertEqual(sum(ties.values()), len("".join(rings)))

    def test_in_another_order_the_same(self):
        rings = ("aab", "", "cD", "aab", "C")
        for order in itertools.permutations(rings):
            self.assertEqual(ties_of(order), ties_of(rings))

    def test_turned_back_the_same(self):
        source = helping.chance(62)
        for again in range(60):
            rings = helping.row_by_chance(source, 3)
            back = tuple(helping.ring_by_the_book(helping.backwards(ring)) for ring in rings)
            self.assertEqual(ties_of(back), ties_of(rings))

    def test_what_is_told_is_the_askers_own(self):
        for rings in (("aab",), (), ("ab", "c")):
            first = ties_of(rings)
            kept = dict(first)
            first[("a", "A")] = 40
            first[("b", "C")] = 2
            first.pop(("A", "b"), None)
            self.assertEqual(ties_of(rings), kept)
            self.assertIsNot(ties_of(rings), ties_of(rings))

    def test_what_is_told_is_handed_on(self):
        long = ring_of("ab" * 20000 + "b")
        self.assertEqual(ties_of((long,)), {("a", "B"): 20000, ("A", "b"): 20000, ("b", "B"): 1})
        self.assertEqual(count_of((long,), "b"), 20001)


class CountOf(unittest.TestCase):
    def test_letter_and_contrary(self):
        rings = ("aab", "AAAb", "", "cD")
        for letters, many in (("aA", 5), ("bB", 2), ("cC", 1), ("dD", 1)):
            for letter in letters:
                self.assertEqual(count_of(rings, letter), many)
                self.assertIs(type(count_of(rings, letter)), int)

    def test_one_that_stands_nowhere(self):
        for rings in ((), ("",), ("a",), ("aab", "a")):
            for letter in "cCdD":
                self.assertEqual(count_of(rings, letter), 0)
                self.assertIs(type(count_of(rings, letter)), int)

    def test_both_in_one_ring(self):
        self.assertEqual(count_of(("abAB",), "a"), 2)
        self.assertEqual(count_of(("abAB", "abAB"), "B"), 4)

    def test_so_many_ties_are_at_it(self):
        source = helping.chance(63)
        for again in range(100):
            n = source.randint(1, 4)
            rings = helping.row_by_chance(source, n)
            ties = ties_of(rings)
            for letter in helping.letters_upto(n):
                self.assertEqual(count_of(rings, letter), "".join(rings).lower().count(letter.lower()))
                self.assertEqual(count_of(rings, letter), sum(many for pair, many in ties.items() if letter in pair))


if __name__ == "__main__":
    unittest.main()
