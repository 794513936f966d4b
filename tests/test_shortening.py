import unittest

import helping
from newletters.changes import look_change, rings_changed
from newletters.flows import flow_for, flow_worth
from newletters.retellings import ring_retold
from newletters.rings import ring_of
from newletters.shortening import made_short, made_shorter
from newletters.ties import count_of, ties_of

# Rows that can't be made shorter.
SHORTEST = (
    (1, ()), (1, ("",)), (2, ("", "")), (1, ("a",)), (1, ("AAA",)), (2, ("B",)), (4, ("D", "d", "D")),
    (2, ("aabb",)), (2, ("abAB",)), (2, ("aa", "bb")), (2, ("abAB", "", "abAB")), (3, ("aabbcc",)),
    (4, ("aabbccdd",)), (4, ("a", "b", "c", "d")), (4, ("abABcdCD",)), (3, ("a", "C")),
)


class MadeShorter(unittest.TestCase):
    def test_by_the_first_letter(self):
        self.assertEqual(made_shorter(2, ("ab",)), (("a", ("a", "B")), 1))
        self.assertEqual(made_shorter(2, ("aab",)), (("a", ("a", "B")), 1))
        self.assertEqual(made_shorter(2, ("aab", "ab")), (("a", ("a", "B")), 2))
        self.assertEqual(made_shorter(2, ("aB",)), (("a", ("a", "b")), 1))
        self.assertEqual(made_shorter(2, ("ab", "", "ab", "ab")), (("a", ("a", "B")), 3))

    def test_by_a_later_one_alone(self):
        self.assertEqual(made_shorter(2, ("abb",)), (("b", ("A", "b")), 1))
        self.assertEqual(made_shorter(3, ("acc",)), (("c", ("A", "c")), 1))
        self.assertEqual(made_shorter(4, ("add",)), (("d", ("A", "d")), 1))
        self.assertEqual(made_shorter(3, ("a", "bC")), (("b", ("b", "c")), 1))
        self.assertEqual(made_shorter(4, ("aa", "bb", "cdd")), (("d", ("C", "d")), 1))

    def test_by_none(self):
        for n, rings in SHORTEST:
            self.assertIsNone(made_shorter(n, rings), rings)

    def test_least_side_where_several_are_left_by_as_few(self):
        # The letter c, which stands nowhere, may lie on either side.
        self.assertEqual(made_shorter(3, ("ab",)), (("a", ("a", "B")), 1))
        self.assertEqual(made_shorter(4, ("cd", "ab")), (("a", ("a", "B")), 1))

    def test_by_the_book(self):
        source = helping.chance(111)
        falls = set()
        for again in range(400):
            n = source.randint(1, 4)
            rings = helping.row_by_chance(source, n)
            told = made_shorter(n, rings)
            self.assertEqual(told, helping.shorter_by_the_book(n, rings), rings)
            if told is None:
                continue
            change, fall = told
            self.assertIs(type(told), tuple)
            self.assertIs(type(fall), int)
            self.assertIs(look_change(n, change), True)
            behind = helping.row_by_the_book(helping.change_by_the_book(n, change), rings)
            self.assertEqual(fall, len("".join(rings)) - len("".join(behind)))
            falls.add((change[0], fall))
        self.assertLessEqual({("a", 1), ("a", 2), ("a", 3), ("b", 1), ("b", 2), ("c", 1), ("d", 1)}, falls)

    def test_none_just_where_no_change_at_all_makes_it_shorter(self):
        source = helping.chance(112)
        for again in range(60):
            n = source.randint(1, 3)
            rings = helping.row_by_chance(source, n, 12)
            length = len("".join(rings))
            ties = helping.ties_by_the_book(rings)
            shortest = min(length - count_of(rings, letter) + helping.leaving(ties, side)
                           for letter in helping.letters_upto(n) for side in helping.sides_by_the_book(n, letter))
            self.assertEqual(made_shorter(n, rings) is None, shortest == length, rings)


class MadeShort(unittest.TestCase):
    def look(self, n, rings):
        told = made_short(n, rings)
        self.assertIs(type(told), tuple)
        changes, end = told
        self.assertIs(type(changes), list)
        self.assertIs(type(end), tuple)
        row = rings
        for change in changes:
            self.assertEqual(helping.shorter_by_the_book(n, row)[0], change)
            row = helping.row_by_the_book(helping.change_by_the_book(n, change), row)
        self.assertEqual(end, row)
        self.assertIsNone(helping.shorter_by_the_book(n, row))
        self.assertIsNone(made_shorter(n, end))
        return changes, end

    def test_rows_that_are_shortest(self):
        for n, rings in SHORTEST:
            self.assertEqual(made_short(n, rings), ([], rings))

    def test_some(self):
        self.assertEqual(self.look(2, ("ab",)), ([("a", ("a", "B"))], ("b",)))
        self.assertEqual(self.look(2, ("aab",)), ([("a", ("a", "B")), ("a", ("a", "B"))], ("b",)))
        self.assertEqual(self.look(2, ("abb", "")), ([("b", ("A", "b")), ("a", ("a", "B"))], ("b", "")))
        changes, end = self.look(3, ("abc",))
        self.assertEqual([len(ring) for ring in end], [1])
        changes, end = self.look(4, ("", "adaD", "", "d"))
        self.assertEqual([len(ring) for ring in end], [0, 4, 0, 1])

    def test_by_the_book(self):
        source = helping.chance(113)
        most = 0
        for again in range(200):
            n = source.randint(1, 4)
            changes, end = self.look(n, helping.row_by_chance(source, n))
            most = max(most, len(changes))
        self.assertGreaterEqual(most, 6)

    def test_no_alphabet_makes_it_shorter(self):
        source = helping.chance(114)
        for again in range(150):
            n = source.randint(1, 4)
            rings = helping.row_by_chance(source, n, 10)
            other = helping.row_by_the_book(helping.alphabet_by_chance(source, n, 2), rings)
            length = len("".join(made_short(n, rings)[1]))
            self.assertEqual(len("".join(made_short(n, other)[1])), length, rings)
            self.assertLessEqual(length, len("".join(other)))

    def test_shortest_just_where_each_letter_has_a_flow_of_its_count(self):
        source = helping.chance(115)
        for again in range(150):
            n = source.randint(1, 4)
            rings = helping.row_by_chance(source, n, 10)
            for row in (rings, made_short(n, rings)[1]):
                ties = ties_of(row)
                worths = [flow_worth(n, ties, letter, flow_for(n, ties, letter)) for letter in "abcd"[:n]]
                counts = [count_of(row, letter) for letter in "abcd"[:n]]
                self.assertEqual(worths == counts, made_shorter(n, row) is None, row)

    def test_the_words_of_alphabets_come_to_one_letter_each(self):
        source = helping.chance(116)
        for again in range(60):
            n = source.randint(1, 4)
            words = helping.alphabet_by_chance(source, n, source.randint(1, 3))
            changes, end = self.look(n, tuple(helping.ring_by_the_book(word) for word in words))
            self.assertEqual([len(ring) for ring in end], [1] * n, words)
            self.assertEqual(sorted(ring.lower() for ring in end), list("abcd"[:n]))

    def test_the_rows_length_counts_and_not_that_of_a_ring(self):
        # The last ring gets longer by two, as the others get shorter by three.
        changes, end = self.look(2, ("ab", "ab", "ab", "aaBB"))
        self.assertEqual(changes, [("a", ("a", "B"))])
        self.assertEqual(end, ("b", "b", "b", "aaaBaB"))

    def test_the_list_is_the_askers_own(self):
        for rings in (("aab",), ("aabb",), ()):
            first = made_short(2, rings)
            kept = list(first[0]), first[1]
            first[0].append(("a", ("a",)))
            first[0].reverse()
            self.assertEqual(made_short(2, rings), kept)

    def test_asked_again_behind_another_one(self):
        asked = ((2, ("aab",)), (3, ("aab",)), (2, ("abb",)), (2, ("aab", "ab")), (4, ("adaD",)))
        first = [(made_short(*question), made_shorter(*question)) for question in asked]
        for question, told in list(zip(asked, first)) + list(zip(asked, first))[::-1]:
            self.assertEqual((made_short(*question), made_shorter(*question)), told)

    def test_what_is_told_is_handed_on(self):
        alphabet = helping.long_alphabet(25)
        rings = tuple(ring_of(word) for word in alphabet)
        self.assertGreater(len("".join(rings)), 10000)
        changes, end = made_short(3, rings)
        self.assertEqual([len(ring) for ring in end], [1, 1, 1])
        longer = ring_retold(alphabet, "aabb")
        self.assertEqual(len(made_short(3, (longer,))[1][0]), 4)
        self.assertLess(len(rings_changed(3, (longer,), made_shorter(3, (longer,))[0])[0]), len(longer))


if __name__ == "__main__":
    unittest.main()
