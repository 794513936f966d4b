import itertools
import unittest

import helping
from newletters.sides import least_side, ties_leaving
from newletters.ties import ties_of


def leaving_by_the_book(ties, side):
    total = 0
    for (one, other), many in ties.items():
        if len([end for end in (one, other) if end in side]) == 1:
            total += many
    return total


def all_sides(n):
    letters = helping.letters_upto(n)
    for many in range(2 * n + 1):
        yield from itertools.combinations(letters, many)


class TiesLeaving(unittest.TestCase):
    def test_no_letters_and_all_letters(self):
        for n, ties in helping.ties_cases(71, 20):
            self.assertEqual(ties_leaving(ties, ()), 0)
            self.assertEqual(ties_leaving(ties, tuple(helping.letters_upto(n))), 0)

    def test_some(self):
        ties = {("a", "A"): 1, ("a", "B"): 2, ("A", "b"): 4, ("b", "B"): 8}
        self.assertEqual(ties_leaving(ties, ("a",)), 3)
        self.assertEqual(ties_leaving(ties, ("A",)), 5)
        self.assertEqual(ties_leaving(ties, ("b",)), 12)
        self.assertEqual(ties_leaving(ties, ("B",)), 10)
        self.assertEqual(ties_leaving(ties, ("a", "A")), 6)
        self.assertEqual(ties_leaving(ties, ("b", "B")), 6)
        self.assertEqual(ties_leaving(ties, ("a", "B")), 9)
        self.assertEqual(ties_leaving(ties, ("a", "b")), 15)
        self.assertEqual(ties_leaving(ties, ("a", "A", "b")), 10)

    def test_numbers_at_the_bounds(self):
        self.assertEqual(ties_leaving({("a", "D"): 48, ("A", "d"): 1, ("b", "B"): 48}, ("a", "d")), 49)
        full = {pair: 48 for pair in itertools.combinations(helping.letters_upto(4), 2)}
        for many in range(9):
            self.assertEqual(ties_leaving(full, tuple(helping.ALL_LETTERS[:many])), 48 * many * (8 - many))

    def test_all_sides_by_the_book(self):
        for n, ties in helping.ties_cases(72, 25):
            for side in all_sides(n):
                told = ties_leaving(ties, side)
                self.assertIs(type(told), int)
                self.assertEqual(told, leaving_by_the_book(ties, side), (ties, side))

    def test_against_the_letters_that_are_not_in_it(self):
        for n, ties in helping.ties_cases(73, 25):
            for side in all_sides(n):
                others = tuple(letter for letter in helping.letters_upto(n) if letter not in side)
                self.assertEqual(ties_leaving(ties, side), ties_leaving(ties, others))

    def test_what_the_dict_has_by_then(self):
        ties = {("a", "A"): 1}
        self.assertEqual(ties_leaving(ties, ("a",)), 1)
        ties[("a", "A")] = 7
        self.assertEqual(ties_leaving(ties, ("a",)), 7)
        ties[("a", "b")] = 2
        self.assertEqual(ties_leaving(ties, ("a",)), 9)
        del ties[("a", "A")]
        self.assertEqual(ties_leaving(ties, ("a",)), 2)
        self.assertEqual(ties_leaving({}, ("a",)), 0)
        self.assertEqual(ties, {("a", "b"): 2})


class LeastSide(unittest.TestCase):
    def look(self, n, ties, letter):
        kept = dict(ties)
        side = least_side(n, ties, letter)
        self.assertEqual(ties, kept)
        self.assertIs(type(side), tuple)
        sides = sorted(helping.sides_by_the_book(n, letter),
                       key=lambda other: (leaving_by_the_book(ties, other), len(other)))
        self.assertEqual(side, sides[0], (ties, letter))
        self.assertEqual(least_side(n, ties, letter), side)

    def test_of_no_ties_the_letter_alone(self):
        for n in range(1, 5):
            for letter in helping.letters_upto(n):
                self.assertEqual(least_side(n, {}, letter), (letter,))

    def test_one_letter(self):
        self.assertEqual(least_side(1, {("a", "A"): 3}, "a"), ("a",))
        self.assertEqual(least_side(1, {("a", "A"): 3}, "A"), ("A",))

    def test_some(self):
        ties = ties_of(("aab",))
        self.assertEqual(least_side(2, ties, "a"), ("a", "B"))
        self.assertEqual(least_side(2, ties, "A"), ("A", "b"))
        self.assertEqual(least_side(2, ties, "b"), ("b",))
        self.assertEqual(least_side(2, ties, "B"), ("B",))
        self.assertEqual(least_side(2, {("a", "b"): 1, ("A", "B"): 1}, "a"), ("a", "b"))
        self.assertEqual(least_side(2, {("a", "b"): 2, ("A", "b"): 2}, "a"), ("a",))
        self.assertEqual(least_side(2, {("a", "b"): 2, ("A", "b"): 2}, "A"), ("A",))
        self.assertEqual(least_side(2, {("a", "b"): 3, ("A", "b"): 2}, "a"), ("a", "b"))
        self.assertEqual(least_side(2, {("A", "b"): 3, ("a", "b"): 2}, "A"), ("A", "b"))
        self.assertEqual(least_side(3, {("a", "c"): 9, ("b", "c"): 8, ("A", "b"): 7}, "a"), ("a", "b", "c"))
        self.assertEqual(least_side(3, {("a", "c"): 7, ("b", "c"): 8, ("A", "b"): 7}, "a"), ("a",))
        self.assertEqual(least_side(4, {("A", "d"): 2, ("a", "B"): 5, ("B", "D"): 48, ("A", "D"): 4}, "a"),
                         ("a", "B", "D"))

    def test_a_letter_that_stands_nowhere_is_left_out(self):
        ties = ties_of(("aab",))
        for n in (3, 4):
            self.assertEqual(least_side(n, ties, "a"), ("a", "B"))
            self.assertEqual(least_side(n, ties, "c"), ("c",))
            self.assertEqual(least_side(n, ties, "C"), ("C",))

    def test_all_sides_gone_through(self):
        for n, ties in helping.ties_cases(74, 60):
            for letter in helping.letters_upto(n):
                self.look(n, ties, letter)

    def test_where_many_sides_are_left_by_as_few(self):
        source = helping.chance(75)
        for again in range(60):
            n = source.randint(2, 4)
            way = source.sample(helping.letters_upto(n), source.randint(2, 2 * n))
            many = source.randint(1, 48)
            ties = {tuple(sorted(pair, key=helping.rank)): many for pair in zip(way, way[1:])}
            for letter in helping.letters_upto(n):
                self.look(n, ties, letter)

    def test_asked_again_when_the_dict_was_changed(self):
        ties = {("a", "b"): 3, ("A", "b"): 2}
        self.assertEqual(least_side(2, ties, "a"), ("a", "b"))
        ties[("A", "b")] = 4
        self.assertEqual(least_side(2, ties, "a"), ("a",))
        ties[("A", "b")] = 2
        self.assertEqual(least_side(2, ties, "a"), ("a", "b"))
        self.assertEqual(least_side(3, ties, "A"), ("A",))
        self.assertEqual(least_side(2, ties, "a"), ("a", "b"))


if __name__ == "__main__":
    unittest.main()
