import itertools
import unittest

import helping
from newletters.alphabets import look_alphabet
from newletters.changes import change_told, length_behind, look_change, rings_changed
from newletters.errors import NoChange
from newletters.retellings import retold
from newletters.rings import is_ring


def all_changes(n):
    for letter in helping.letters_upto(n):
        for side in helping.sides_by_the_book(n, letter):
            yield letter, side


class LookChange(unittest.TestCase):
    def refused(self, n, letter, side, word):
        refusal = helping.refusal_of(self, NoChange, look_change, n, (letter, side))
        self.assertEqual(refusal.word, word, (n, letter, side))

    def test_each_letter_with_sides_for_it(self):
        for n in range(1, 5):
            for change in all_changes(n):
                self.assertIs(look_change(n, change), True, change)

    def test_no_letter_of_n(self):
        for n, letter in ((1, "b"), (1, "B"), (2, "c"), (2, "C"), (3, "d"), (3, "D"), (4, "e"), (4, "E")):
            for side in ((letter,), (), ("a",), ("a", letter), (letter, letter), ("A", "b"), ("z",)):
                self.refused(n, letter, side, "letter")

    def test_other_texts_as_letter(self):
        for n in range(1, 5):
            for letter in ("", "aa", "ab", "aA", "aAbB", " ", "a ", ".", "1", "\n", "~", "z"):
                for side in ((letter,), (), ("a",), ("a", "A"), ("b", "a")):
                    self.refused(n, letter, side, "letter")

    def test_side_without_letters(self):
        for n in range(1, 5):
            for letter in helping.letters_upto(n):
                self.refused(n, letter, (), "side")

    def test_side_without_the_letter(self):
        self.refused(1, "a", ("A",), "side")
        self.refused(2, "a", ("b",), "side")
        self.refused(2, "A", ("b", "B"), "side")
        self.refused(3, "b", ("a", "A", "c", "C"), "side")
        self.refused(4, "D", ("a", "b", "c"), "side")

    def test_side_with_the_contrary(self):
        self.refused(1, "a", ("a", "A"), "side")
        self.refused(1, "A", ("a", "A"), "side")
        self.refused(2, "b", ("a", "b", "B"), "side")
        for n in range(1, 5):
            for letter in helping.letters_upto(n):
                self.refused(n, letter, tuple(helping.letters_upto(n)), "side")

    def test_side_that_is_not_rising(self):
        self.refused(2, "a", ("b", "a"), "side")
        self.refused(2, "a", ("a", "B", "b"), "side")
        self.refused(2, "b", ("A", "a", "b"), "side")
        # As Python puts texts in order this one rises.
        self.refused(2, "a", ("B", "a"), "side")
        self.refused(3, "c", ("A", "B", "b", "c"), "side")
        for order in itertools.permutations(("a", "b", "C", "d")):
            if order != ("a", "b", "C", "d"):
                self.refused(4, "d", order, "side")

    def test_a_letter_twice_in_the_side(self):
        self.refused(1, "a", ("a", "a"), "side")
        self.refused(2, "a", ("a", "b", "b"), "side")
        self.refused(3, "C", ("a", "a", "C"), "side")
        self.refused(3, "a", ("a", "b", "a"), "side")

    def test_a_letter_that_is_none_of_n_in_the_side(self):
        self.refused(1, "a", ("a", "b"), "side")
        self.refused(2, "a", ("a", "c"), "side")
        self.refused(2, "b", ("b", "C"), "side")
        self.refused(3, "c", ("c", "D"), "side")
        self.refused(4, "d", ("d", "e"), "side")
        for text in ("", "ab", "bB", " ", ".", "1", "~"):
            self.refused(3, "a", ("a", text), "side")
            self.refused(3, "a", (text, "a"), "side")

    def test_all_short_sides_of_two_letters(self):
        for letter in "aAbB":
            known = set(helping.sides_by_the_book(2, letter))
            for many in range(4):
                for side in itertools.product("aAbBc", repeat=many):
                    if side in known:
                        self.assertIs(look_change(2, (letter, side)), True)
                    else:
                        self.refused(2, letter, side, "side")

    def test_asked_again_behind_another_one(self):
        for again in range(2):
            self.assertIs(look_change(2, ("b", ("a", "b"))), True)
            self.refused(1, "b", ("a", "b"), "letter")
            self.refused(2, "a", ("b",), "side")
            self.assertIs(look_change(3, ("c", ("a", "b", "c"))), True)
            self.refused(2, "c", ("a", "b", "c"), "letter")
            self.refused(2, "a", ("a", "b", "c"), "side")


class ChangeTold(unittest.TestCase):
    def test_each_way_in_which_a_letter_and_its_contrary_may_lie(self):
        self.assertEqual(change_told(2, ("a", ("a",))), ("a", "b"))
        self.assertEqual(change_told(2, ("a", ("a", "b"))), ("a", "ba"))
        self.assertEqual(change_told(2, ("a", ("a", "B"))), ("a", "Ab"))
        self.assertEqual(change_told(2, ("a", ("a", "b", "B"))), ("a", "Aba"))

    def test_by_contraries(self):
        self.assertEqual(change_told(2, ("A", ("A",))), ("a", "b"))
        self.assertEqual(change_told(2, ("A", ("A", "b"))), ("a", "bA"))
        self.assertEqual(change_told(2, ("A", ("A", "B"))), ("a", "ab"))
        self.assertEqual(change_told(2, ("A", ("A", "b", "B"))), ("a", "abA"))
        self.assertEqual(change_told(2, ("B", ("a", "B"))), ("aB", "b"))
        self.assertEqual(change_told(2, ("B", ("A", "B"))), ("ba", "b"))

    def test_several_letters_at_once(self):
        self.assertEqual(change_told(1, ("a", ("a",))), ("a",))
        self.assertEqual(change_told(1, ("A", ("A",))), ("a",))
        self.assertEqual(change_told(3, ("b", ("a", "A", "b", "C"))), ("Bab", "b", "Bc"))
        self.assertEqual(change_told(3, ("C", ("A", "b", "C"))), ("ca", "bC", "c"))
        self.assertEqual(change_told(4, ("d", ("a", "B", "c", "C", "d"))), ("ad", "Db", "Dcd", "d"))
        self.assertEqual(change_told(4, ("D", ("A", "b", "D"))), ("da", "bD", "c", "d"))

    def test_all_changes_by_the_book(self):
        for n in range(1, 5):
            for change in all_changes(n):
                told = change_told(n, change)
                self.assertIs(type(told), tuple)
                self.assertEqual(told, helping.change_by_the_book(n, change), change)

    def test_contraries_are_changed_in_the_same_way(self):
        for letter, side in all_changes(3):
            told = change_told(3, (letter, side))
            for other in helping.letters_upto(3):
                ahead = letter.swapcase() if other.swapcase() in side else ""
                behind = letter if other in side else ""
                whole = other if other.lower() == letter.lower() else ahead + other + behind
                self.assertEqual(retold(told, other), whole)

    def test_each_is_an_alphabet(self):
        for n in range(1, 5):
            for change in all_changes(n):
                self.assertIs(look_alphabet(change_told(n, change)), True)


class RingsChanged(unittest.TestCase):
    def test_no_rings_and_rings_without_letters(self):
        self.assertEqual(rings_changed(2, (), ("a", ("a", "b"))), ())
        self.assertEqual(rings_changed(2, ("", ""), ("a", ("a", "b"))), ("", ""))

    def test_some(self):
        self.assertEqual(rings_changed(2, ("ab",), ("a", ("a", "b"))), ("aab",))
        self.assertEqual(rings_changed(2, ("ab",), ("a", ("a", "B"))), ("b",))
        self.assertEqual(rings_changed(2, ("b", "ab", "a"), ("a", ("a", "B"))), ("Ab", "b", "a"))
        self.assertEqual(rings_changed(3, ("cb", "", "a"), ("b", ("b", "C"))), ("c", "", "a"))

    def test_by_the_book_in_the_rows_order(self):
        source = helping.chance(91)
        for again in range(300):
            n = source.randint(1, 4)
            rings = helping.row_by_chance(source, n)
            change = helping.change_by_chance(source, n)
            told = rings_changed(n, rings, change)
            self.assertIs(type(told), tuple)
            self.assertEqual(told, helping.row_by_the_book(helping.change_by_the_book(n, change), rings))
            self.assertTrue(all(is_ring(ring) for ring in told))

    def test_rings_stay(self):
        source = helping.chance(92)
        for again in range(60):
            n = source.randint(1, 4)
            rings = helping.row_by_chance(source, n)
            for letter in helping.letters_upto(n):
                others = tuple(other for other in helping.letters_upto(n) if other != letter.swapcase())
                for side in ((letter,), others):
                    self.assertEqual(rings_changed(n, rings, (letter, side)), rings)
                    self.assertEqual(length_behind(n, rings, (letter, side)), len("".join(rings)))

    def test_a_letter_that_stands_nowhere_may_lie_on_either_side(self):
        rings = ("aab", "abAB")
        for side in (("a", "B"), ("a", "B", "c"), ("a", "B", "C"), ("a", "B", "c", "C")):
            self.assertEqual(rings_changed(3, rings, ("a", side)), ("ab", "abAB"))
            self.assertEqual(length_behind(3, rings, ("a", side)), 6)


class LengthBehind(unittest.TestCase):
    def test_some(self):
        self.assertEqual(length_behind(2, (), ("a", ("a", "b"))), 0)
        self.assertEqual(length_behind(2, ("", ""), ("b", ("a", "b"))), 0)
        self.assertEqual(length_behind(2, ("ab",), ("a", ("a", "b"))), 3)
        self.assertEqual(length_behind(2, ("ab",), ("a", ("a", "B"))), 1)
        self.assertEqual(length_behind(2, ("ab",), ("a", ("a", "b", "B"))), 2)
        self.assertEqual(length_behind(2, ("b", "ab", "a"), ("a", ("a", "B"))), 4)

    def test_all_changes_against_the_rings_themselves(self):
        source = helping.chance(93)
        for n in range(1, 4):
            for again in range(12):
                rings = helping.row_by_chance(source, n)
                for change in all_changes(n):
                    self.look(n, rings, change)

    def test_by_chance_with_four_letters(self):
        source = helping.chance(94)
        for again in range(400):
            self.look(4, helping.row_by_chance(source, 4), helping.change_by_chance(source, 4))

    def look(self, n, rings, change):
        told = length_behind(n, rings, change)
        self.assertIs(type(told), int)
        behind = helping.row_by_the_book(helping.change_by_the_book(n, change), rings)
        self.assertEqual(told, len("".join(behind)), (rings, change))
        self.assertEqual(told, len("".join(rings_changed(n, rings, change))))

    def test_what_is_told_is_handed_on(self):
        rings = ("aabb",)
        for again in range(8):
            for change in (("a", ("a", "b")), ("b", ("a", "b"))):
                length = length_behind(2, rings, change)
                rings = rings_changed(2, rings, change)
                self.assertEqual(len(rings[0]), length)
        self.assertGreater(len(rings[0]), 1000)


if __name__ == "__main__":
    unittest.main()
