import itertools
import unittest

import helping
from newletters.changes import length_behind, look_change
from newletters.errors import LetterError, TooMany
from newletters.levels import forms_from, level_changes
from newletters.retellings import ring_retold
from newletters.rings import ring_of

# Shortest rings with all forms to which they are led.
FORMS = (
    ("", [""]),
    ("a", ["a"]),
    ("D", ["a"]),
    ("CCC", ["aaa"]),
    ("abAB", ["abAB"]),
    ("aabb", ["aabb", "abaB"]),
    ("abaB", ["aabb", "abaB"]),
    ("ccDD", ["aabb", "abaB"]),
    ("aaaabb", ["aaaabb", "aaabAb", "aabAAb"]),
    ("aabAbb", ["aabAbb"]),
    ("aabbcc", ["aabbcc", "aabcbC", "aabcBc", "aabcBC", "aabccb", "abacbc", "abacbC", "abacBC", "abcaBC"]),
)


def number_of_letters(ring):
    return "abcd".index(max(ring.lower(), default="a")) + 1


def level_by_the_book(n, ring):
    """All changes gone through, each by retelling the ring."""
    standing = [letter for letter in helping.letters_upto(n) if letter.lower() in ring.lower()]
    found = []
    for letter in standing:
        for side in helping.sides_by_the_book(n, letter):
            behind = helping.row_by_the_book(helping.change_by_the_book(n, (letter, side)), (ring,))
            if set(side) <= set(standing) and len(behind[0]) == len(ring):
                found.append((letter, side))
    return sorted(found, key=lambda change: (helping.rank(change[0]), [helping.rank(other) for other in change[1]]))


def rings_by_chance(seed, many, shortest=False):
    """Rings of at most three letters, at most 10 long, of three letters 7."""
    source = helping.chance(seed)
    while many > 0:
        n = source.randint(1, 3)
        size = source.randint(0, 7 if n == 3 else 10)
        ring = helping.ring_by_the_book(helping.word_by_chance(source, n, size))
        if not shortest or helping.shorter_by_the_book(n, (ring,)) is None:
            many -= 1
            yield n, ring


class LevelChanges(unittest.TestCase):
    def test_without_letters_none(self):
        for n in range(1, 5):
            self.assertEqual(level_changes(n, ""), [])

    def test_one_letter(self):
        for n in range(1, 5):
            self.assertEqual(level_changes(n, "a"), [("a", ("a",)), ("A", ("A",))])
            self.assertEqual(level_changes(n, "AAA"), [("a", ("a",)), ("A", ("A",))])
        self.assertEqual(level_changes(4, "D"), [("d", ("d",)), ("D", ("D",))])

    def test_two_letters(self):
        told = [
            ("a", ("a",)), ("a", ("a", "b", "B")), ("a", ("a", "B")),
            ("A", ("A",)), ("A", ("A", "b")), ("A", ("A", "b", "B")),
            ("b", ("a", "A", "b")), ("b", ("A", "b")), ("b", ("b",)),
            ("B", ("a", "A", "B")), ("B", ("a", "B")), ("B", ("B",)),
        ]
        for n in range(2, 5):
            self.assertEqual(level_changes(n, "aabb"), told)

    def test_by_which_the_ring_stays(self):
        for n, ring in rings_by_chance(131, 60):
            standing = [letter for letter in helping.letters_upto(n) if letter.lower() in ring.lower()]
            told = level_changes(n, ring)
            for letter in standing:
                self.assertIn((letter, (letter,)), told)
                self.assertIn((letter, tuple(other for other in standing if other != letter.swapcase())), told)

    def test_letters_that_stand_alone(self):
        told = level_changes(4, "bbDD")
        self.assertEqual({letter for letter, side in told}, set("bBdD"))
        self.assertLessEqual({other for letter, side in told for other in side}, set("bBdD"))
        self.assertEqual(told, level_by_the_book(4, "bbDD"))

    def test_all_short_ones(self):
        for n, longest in ((1, 5), (2, 5), (3, 3)):
            for word in helping.plain_words(n, longest):
                if helping.ring_by_the_book(word) == word:
                    self.assertEqual(level_changes(n, word), level_by_the_book(n, word), word)

    def test_by_the_book(self):
        for n, ring in rings_by_chance(132, 150):
            told = level_changes(n, ring)
            self.assertIs(type(told), list)
            self.assertEqual(told, level_by_the_book(n, ring), ring)
            for change in told:
                self.assertEqual([type(part) for part in (change,) + change], [tuple, str, tuple])
                self.assertIs(look_change(n, change), True)
                self.assertEqual(length_behind(n, (ring,), change), len(ring))
            for more in range(n + 1, 5):
                self.assertEqual(level_changes(more, ring), told, ring)

    def test_of_four_letters(self):
        for ring in ("abcd", "aabbccdd", "abABcdCD", "abcDA"):
            self.assertEqual(level_changes(4, ring_of(ring)), level_by_the_book(4, ring_of(ring)))

    def test_the_list_is_the_askers_own(self):
        for ring in ("aabb", "a", "", "abc"):
            first = level_changes(3, ring)
            kept = list(first)
            first.append(("a", ("a",)))
            first.reverse()
            self.assertEqual(level_changes(3, ring), kept)
            first.clear()
            self.assertEqual(level_changes(3, ring), kept)

    def test_what_is_told_is_handed_on(self):
        alphabet = helping.long_alphabet(18)
        ring = ring_of(alphabet[0])
        self.assertGreater(len(ring), 1000)
        for letter, side in level_changes(3, ring):
            self.assertEqual(length_behind(3, (ring,), (letter, side)), len(ring))


class FormsFrom(unittest.TestCase):
    def test_some(self):
        for ring, forms in FORMS:
            for n in range(number_of_letters(ring), 5):
                self.assertEqual(forms_from(n, ring, 12), forms, ring)

    def test_by_the_book(self):
        many = set()
        for n, ring in rings_by_chance(133, 150, True):
            if n == 3 and len(ring) == 7:
                continue
            forms = helping.forms_by_the_book(n, ring)
            many.add(len(forms))
            told = forms_from(n, ring, 12)
            self.assertIs(type(told), list)
            self.assertEqual(told, forms, ring)
        self.assertLessEqual({1, 2, 3}, many)

    def test_of_three_letters_by_the_book(self):
        for ring in ("abaBcaC", "abaBcAC", "aaabcBC", "aabbcc", "abcaBC"):
            self.assertEqual(forms_from(3, ring, 12), helping.forms_by_the_book(3, ring))
        # A letter that stands nowhere leads to no other forms.
        self.assertEqual(forms_from(4, "abaBcAC", 12), helping.forms_by_the_book(4, "abaBcAC"))

    def test_the_same_from_each_of_the_forms(self):
        for ring, forms in FORMS:
            for form in forms:
                self.assertEqual(forms_from(4, form, 12), forms)

    def test_alphabets_lead_to_no_others(self):
        source = helping.chance(134)
        for n, ring in rings_by_chance(135, 40, True):
            if n == 3 and len(ring) == 7:
                continue
            forms = forms_from(n, ring, 12)
            other = helping.row_by_the_book(helping.alphabet_by_chance(source, n, 2), (ring,))
            other = helping.shortest_by_the_book(n, other)[0]
            self.assertIn(helping.form_by_the_book(n, other), forms, (ring, other))
            self.assertEqual(forms_from(n, other, 12), forms)

    def test_as_many_as_most_and_one_more(self):
        for ring, forms in FORMS:
            self.assertEqual(forms_from(4, ring, len(forms)), forms)
            for most in range(1, len(forms)):
                helping.refusal_of(self, TooMany, forms_from, 4, ring, most)

    def test_more_than_twelve(self):
        self.assertEqual(len(helping.forms_by_the_book(3, "aaabbcc")), 20)
        for n, ring in itertools.product((3, 4), ("aaabbcc", "aabaBcc")):
            for most in (1, 11, 12):
                helping.refusal_of(self, TooMany, forms_from, n, ring, most)

    def test_just_twelve_and_one_more(self):
        # Of an even power of a and bb there is a form for each two letters a, and one more.
        self.assertEqual(forms_from(2, "a" * 22 + "bb", 12), helping.forms_by_the_book(2, "a" * 22 + "bb"))
        helping.refusal_of(self, TooMany, forms_from, 2, "a" * 22 + "bb", 11)
        helping.refusal_of(self, TooMany, forms_from, 2, "a" * 24 + "bb", 12)

    def test_the_refusal(self):
        refusal = helping.refusal_of(self, TooMany, forms_from, 2, "aabb", 1)
        self.assertIsInstance(refusal, LetterError)
        self.assertIsInstance(refusal, ValueError)

    def test_the_list_is_the_askers_own(self):
        for ring, forms in FORMS:
            first = forms_from(4, ring, 12)
            first.append("ab")
            first.reverse()
            self.assertEqual(forms_from(4, ring, 12), forms)
            first.clear()
            self.assertEqual(forms_from(4, ring, 12), forms)

    def test_asked_again_behind_another_one(self):
        helping.refusal_of(self, TooMany, forms_from, 3, "aabbcc", 8)
        self.assertEqual(len(forms_from(3, "aabbcc", 9)), 9)
        helping.refusal_of(self, TooMany, forms_from, 3, "aabbcc", 8)
        self.assertEqual(forms_from(2, "aabb", 2), ["aabb", "abaB"])
        helping.refusal_of(self, TooMany, forms_from, 2, "aabb", 1)
        self.assertEqual(forms_from(2, "abAB", 1), ["abAB"])

    def test_what_is_told_is_handed_on(self):
        # Long shortest rings: a power of a letter, and a ring of a power's forms.
        self.assertEqual(forms_from(1, "a" * 2000, 1), ["a" * 2000])
        ring = ring_retold(("a", "abbbAB"), "ab" * 20)
        self.assertEqual(forms_from(2, ring, 12), helping.forms_by_the_book(2, ring))


if __name__ == "__main__":
    unittest.main()
