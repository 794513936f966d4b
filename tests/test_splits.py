import itertools
import unittest

import helping
from newletters.retellings import ring_retold
from newletters.roads import road_back, rows_along
from newletters.shortening import made_shorter
from newletters.splits import split_rings

# n, rows whose letters are already split, and how many letters each part has with the numbers of its rings.
SPLIT = (
    (1, (), []),
    (4, (), []),
    (1, ("",), []),
    (3, ("", "", ""), []),
    (1, ("a",), [(1, (0,))]),
    (1, ("aa", "", "AAA"), [(1, (0, 2))]),
    (2, ("aa", "bb"), [(1, (0,)), (1, (1,))]),
    (2, ("abAB",), [(2, (0,))]),
    (2, ("bb", "aa"), [(1, (0,)), (1, (1,))]),
    (2, ("aabb", "bb"), [(2, (0, 1))]),
    (3, ("cc", "aabb"), [(1, (0,)), (2, (1,))]),
    (3, ("bb", "", "aa", "cc"), [(1, (0,)), (1, (2,)), (1, (3,))]),
    (3, ("aa", "aabb", "bbcc"), [(3, (0, 1, 2))]),
    (3, ("bbcc", "aaa", "cc"), [(2, (0, 2)), (1, (1,))]),
    (4, ("dd", "abAB", "DDD", "ccc"), [(1, (0, 2)), (2, (1,)), (1, (3,))]),
    (4, ("abAB", "cdCD"), [(2, (0,)), (2, (1,))]),
    (4, ("cdCD", "abAB", "CC"), [(2, (0, 2)), (2, (1,))]),
    (4, ("aabb", "ccdd", "aabbccdd"), [(4, (0, 1, 2))]),
    (4, ("aa", "bb", "cc", "dd"), [(1, (0,)), (1, (1,)), (1, (2,)), (1, (3,))]),
)


def tied_by_the_book(rings):
    """The letters and contraries that ties join, each group a set."""
    groups = [set(pair) for pair in helping.ties_by_the_book(rings)]
    for one, other in itertools.combinations(range(len(groups)), 2):
        if groups[one] & groups[other]:
            groups[other] |= groups[one]
            groups[one] = set()
    return [group for group in groups if group]


def parts_by_the_book(row):
    parts = []
    for group in tied_by_the_book(row):
        letters = tuple(sorted(letter for letter in group if letter.islower()))
        rings = tuple(number for number, ring in enumerate(row) if ring and set(ring) <= group)
        parts.append((letters, rings))
    return sorted(parts, key=lambda part: part[1][0])


def sizes(parts):
    return [(len(letters), rings) for letters, rings in parts]


class SplitRings(unittest.TestCase):
    def look(self, n, rings):
        told = split_rings(n, rings)
        self.assertIs(type(told), tuple)
        road, row, parts = told
        self.assertTrue(helping.is_road_by_the_book(n, road), road)
        self.assertIs(type(row), tuple)
        self.assertEqual(helping.end_of_road(n, rings, road), row, (rings, road))
        self.assertEqual(([rings] + rows_along(n, rings, road))[-1], row)
        self.assertEqual(([row] + rows_along(n, row, road_back(n, road)))[-1], rings)
        self.assertIsNone(helping.shorter_by_the_book(n, row), rings)
        self.assertIsNone(made_shorter(n, row))
        self.assertIs(type(parts), list)
        for part in parts:
            self.assertEqual([type(member) for member in (part,) + part], [tuple, tuple, tuple])
        for group in tied_by_the_book(row):
            self.assertEqual({letter.swapcase() for letter in group}, group)
        self.assertEqual(parts, parts_by_the_book(row), (rings, row))
        return parts

    def test_split_already(self):
        for n, rings, parts in SPLIT:
            self.assertEqual(sizes(self.look(n, rings)), parts, rings)
            for more in range(n + 1, 5):
                self.assertEqual(sizes(self.look(more, rings)), parts, rings)

    def test_letters_without_contraries_rising(self):
        self.assertEqual(self.look(4, ("DD", "AA")), [(("d",), (0,)), (("a",), (1,))])
        self.assertEqual(self.look(4, ("CdCD", "ABab")), [(("c", "d"), (0,)), (("a", "b"), (1,))])
        self.assertEqual(self.look(4, ("BDbd",)), [(("b", "d"), (0,))])

    def test_retold_as_many_parts_as_before(self):
        source = helping.chance(171)
        for n, rings, parts in SPLIT:
            for again in range(6):
                other = helping.row_by_the_book(helping.alphabet_by_chance(source, n, source.randint(0, 3)), rings)
                self.assertEqual(sizes(self.look(n, other)), parts, other)

    def test_by_chance(self):
        source = helping.chance(172)
        many = set()
        for again in range(300):
            n = source.randint(1, 4)
            rings = helping.row_by_chance(source, n, source.choice((4, 8, 24)))
            many.add(len(self.look(n, rings)))
        self.assertLessEqual({0, 1, 2, 3}, many)

    def test_rings_in_another_order(self):
        source = helping.chance(173)
        for n, rings, parts in SPLIT:
            order = source.sample(range(len(rings)), len(rings))
            told = sizes(self.look(n, tuple(rings[number] for number in order)))
            moved = [(many, tuple(sorted(order.index(number) for number in numbers))) for many, numbers in parts]
            self.assertEqual(told, sorted(moved, key=lambda part: part[1]), rings)

    def test_one_turned_back(self):
        for n, rings, parts in SPLIT:
            for number, ring in enumerate(rings):
                back = helping.ring_by_the_book(helping.backwards(ring))
                self.assertEqual(sizes(self.look(n, rings[:number] + (back,) + rings[number + 1:])), parts)

    def test_letters_exchanged(self):
        source = helping.chance(174)
        for n, rings, parts in SPLIT:
            letters = source.choice(list(helping.exchanges(n)))
            self.assertEqual(sizes(self.look(n, helping.row_by_the_book(letters, rings))), parts)

    def test_what_seems_tied_is_split(self):
        # By some alphabet these are aa and bb, or three rings of a letter of their own.
        self.assertEqual(sizes(self.look(2, ("abab", "bb"))), [(1, (0,)), (1, (1,))])
        self.assertEqual(sizes(self.look(2, ("ab", "b"))), [(1, (0,)), (1, (1,))])
        self.assertEqual(sizes(self.look(3, ("abc", "bc", "c"))), [(1, (0,)), (1, (1,)), (1, (2,))])
        self.assertEqual(sizes(self.look(2, ("ab", "ab"))), [(1, (0, 1))])
        # Two of the three letters are enough.
        self.assertEqual(sizes(self.look(3, ("aaCbbc",))), [(2, (0,))])

    def test_the_list_is_the_askers_own(self):
        for n, rings, parts in SPLIT:
            first = split_rings(n, rings)
            kept = list(first[2])
            first[2].append((("a",), (0,)))
            first[2].reverse()
            self.assertEqual(split_rings(n, rings)[2], kept)
            first[2].clear()
            self.assertEqual(split_rings(n, rings)[2], kept)

    def test_asked_again_behind_another_one(self):
        first = [split_rings(n, rings) for n, rings, parts in SPLIT]
        for (n, rings, parts), told in list(zip(SPLIT, first))[::-1]:
            self.assertEqual(split_rings(n, rings), told)

    def test_what_is_told_is_handed_on(self):
        alphabet = helping.long_alphabet(14)
        rings = tuple(ring_retold(alphabet, ring) for ring in ("aabb", "ccc", ""))
        self.assertGreater(len("".join(rings)), 1000)
        road, row, parts = split_rings(3, rings)
        self.assertEqual(sizes(parts), [(2, (0,)), (1, (1,))])
        self.assertEqual(rows_along(3, rings, road)[-1], row)
        self.assertEqual(split_rings(3, row), ((), row, parts))


if __name__ == "__main__":
    unittest.main()
