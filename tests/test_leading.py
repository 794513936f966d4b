import unittest

import helping
from newletters.errors import LetterError, TooMany
from newletters.leading import led_to
from newletters.levels import forms_from
from newletters.papers import paper_holds
from newletters.retellings import retold, ring_retold, told_same
from newletters.rings import ring_of
from newletters.roads import road_back, road_told, rows_along


class Look(unittest.TestCase):
    # What is told, whatever it is, is looked at by the document's words; its first word is told.
    def look(self, n, one, other, most=12):
        told = led_to(n, one, other, most)
        self.assertIs(type(told), tuple)
        {"led": self.look_led, "lengths": self.look_lengths, "forms": self.look_forms}[told[0]](n, one, other, told)
        return told[0]

    def look_led(self, n, one, other, told):
        self.assertEqual(len(told), 2)
        road = told[1]
        self.assertTrue(helping.is_road_by_the_book(n, road), road)
        begin, end = (helping.ring_by_the_book(one),), (helping.ring_by_the_book(other),)
        self.assertEqual(helping.end_of_road(n, begin, road), end, (one, other, road))
        self.assertEqual(([begin] + rows_along(n, begin, road))[-1], end)
        self.assertEqual(([end] + rows_along(n, end, road_back(n, road)))[-1], begin)
        self.assertEqual(ring_retold(road_told(n, road), begin[0]), end[0])

    def look_lengths(self, n, one, other, told):
        self.assertEqual(len(told), 3)
        lengths = []
        for word, paper in zip((one, other), told[1:]):
            row = (helping.ring_by_the_book(word),)
            self.assertIsNone(helping.fault_by_the_book(n, row, paper))
            self.assertIs(paper_holds(n, row, paper), True)
            for change in paper[0]:
                row = helping.row_by_the_book(helping.change_by_the_book(n, change), row)
            lengths.append(len(row[0]))
        self.assertNotEqual(lengths[0], lengths[1])

    def look_forms(self, n, one, other, told):
        self.assertEqual(len(told), 3)
        short = [helping.shortest_by_the_book(n, (helping.ring_by_the_book(word),))[0] for word in (one, other)]
        self.assertIs(type(told[1]), list)
        self.assertEqual(told[1], helping.forms_by_the_book(n, short[0]))
        self.assertEqual(told[2], helping.form_by_the_book(n, short[1]))
        self.assertEqual(len(short[0]), len(short[1]))
        self.assertNotIn(told[2], told[1])

    def refused(self, n, one, other, most):
        helping.refusal_of(self, TooMany, led_to, n, one, other, most)


def word_by_chance(source, n):
    """A word of at most three letters whose ring keeps to the bounds."""
    some = min(n, 3)
    return helping.word_by_chance(source, some, source.randint(0, 6 if some == 3 else 10))


def retold_by_chance(source, n, word):
    """The word by an alphabet, turned by another word."""
    turn = helping.word_by_chance(source, n, source.randint(0, 3))
    told = helping.retold_by_the_book(helping.alphabet_by_chance(source, n, source.randint(0, 3)), word)
    return helping.taken_out(turn + told + helping.backwards(turn))


class Led(Look):
    def test_without_letters(self):
        for n in range(1, 5):
            self.assertEqual(led_to(n, "", "", 1), ("led", ()))

    def test_one_letter_to_each(self):
        for n in range(1, 5):
            for one in helping.letters_upto(n):
                for other in helping.letters_upto(n):
                    self.assertEqual(self.look(n, one, other, 1), "led")
                    self.assertEqual(self.look(n, one * 4, other * 4, 1), "led")

    def test_the_same_ring(self):
        for n, word in ((1, "aa"), (2, "aabb"), (2, "aab"), (3, "abcab"), (4, "bDDbC"), (3, "aabbcc"), (4, "abABcc")):
            self.assertEqual(led_to(n, word, word, 12), ("led", ()))
            self.assertEqual(led_to(n, word[1:] + word[:1], word, 12), ("led", ()))
            self.assertEqual(led_to(n, "a" + word + "A", "B" + word + "b", 12), ("led", ()))

    def test_level_changes_behind_one_another(self):
        # From the first form to the last one no single change leads.
        self.assertEqual(self.look(2, "aaaabb", "aabAAb"), "led")
        forms = forms_from(3, "aabbcc", 12)
        for one in forms:
            for other in forms:
                self.assertEqual(self.look(3, one, other, 9), "led")

    def test_letters_exchanged(self):
        self.assertEqual(self.look(2, "aabAbb", "bbABaa"), "forms")
        self.assertEqual(self.look(2, "aabAbb", "bbaBaa"), "led")
        self.assertEqual(self.look(4, "abaBcaC", "DcDCbDB"), "led")
        self.assertEqual(self.look(4, "aabb", "CdCD"), "led")

    def test_retold_and_turned(self):
        source = helping.chance(141)
        steps = 0
        for again in range(200):
            n = source.randint(1, 4)
            one = word_by_chance(source, n)
            other = retold_by_chance(source, n, one)
            try:
                self.assertEqual(self.look(n, one, other), "led", (one, other))
                self.assertEqual(self.look(n, other, one), "led", (other, one))
                steps = max(steps, len(led_to(n, one, other, 12)[1]))
            except TooMany:
                short = helping.shortest_by_the_book(n, (helping.ring_by_the_book(one),))[0]
                self.assertGreater(len(helping.forms_by_the_book(3, short)), 12)
        self.assertGreaterEqual(steps, 5)

    # Any road would do; a shorter one is easier to read and to use on.
    def test_no_needless_steps(self):
        source = helping.chance(144)
        asked = [(2, "aabb", "abaB"), (2, "aaaabb", "aabAAb"), (3, "aabbcc", "abcaBC")]
        for again in range(150):
            n = source.randint(1, 4)
            one = helping.word_by_chance(source, min(n, 2), source.randint(0, 8))
            asked.append((n, one, retold_by_chance(source, n, one)))
        exchanges = 0
        for n, one, other in asked:
            road = led_to(n, one, other, 12)[1]
            self.assertNotIn(("exchange", told_same(n)), road)
            for step, behind in zip(road, road[1:]):
                self.assertNotEqual((behind,), road_back(n, (step,)), road)
                self.assertNotEqual((step[0], behind[0]), ("exchange", "exchange"), road)
            exchanges += "exchange" in [step[0] for step in road]
        self.assertGreaterEqual(exchanges, 50)

    def test_a_ring_and_it_turned_back(self):
        for n, word in ((1, "aaa"), (2, "abAB"), (2, "aabb"), (3, "abc"), (2, "aabAB")):
            self.assertEqual(self.look(n, word, helping.backwards(word)), "led")
        self.assertEqual(led_to(2, "aabAbb", "BBaBAA", 12), ("forms", ["aabAbb"], "aabaBB"))
        self.assertEqual(led_to(2, "BBaBAA", "aabAbb", 12), ("forms", ["aabaBB"], "aabAbb"))

    def test_exchanges_of_n_letters(self):
        source = helping.chance(142)
        exchanges = set()
        for again in range(150):
            n = source.randint(1, 4)
            one = helping.word_by_chance(source, source.randint(1, min(n, 2)), source.randint(1, 4))
            told = led_to(n, one, retold_by_chance(source, n, one), 12)
            self.assertEqual(told[0], "led")
            for step in told[1]:
                if step[0] == "exchange":
                    self.assertEqual(len(step[1]), n)
                    exchanges.add(n)
        self.assertEqual(exchanges, {1, 2, 3, 4})


class ToldApart(Look):
    def test_by_lengths(self):
        self.assertEqual(self.look(1, "", "a"), "lengths")
        self.assertEqual(self.look(1, "A", ""), "lengths")
        self.assertEqual(self.look(1, "aa", "aaa"), "lengths")
        self.assertEqual(self.look(2, "abAB", "aab"), "lengths")
        self.assertEqual(self.look(2, "bABa", "Bab"), "lengths")
        self.assertEqual(self.look(4, "abcab", "dd"), "lengths")

    def test_papers_in_the_order_asked(self):
        told = led_to(2, "ab", "aa", 12)
        self.assertEqual(told, ("lengths", told[1], ((), ((("a", "A", 2),), ()))))
        self.assertEqual(told[1], ((("a", ("a", "B")),), ((), (("b", "B", 1),))))
        self.assertEqual(led_to(2, "aa", "ab", 12), ("lengths", told[2], told[1]))

    def test_by_forms(self):
        self.assertEqual(led_to(2, "abAB", "aabb", 1), ("forms", ["abAB"], "aabb"))
        self.assertEqual(led_to(2, "abaB", "abAB", 2), ("forms", ["aabb", "abaB"], "abAB"))
        self.assertEqual(led_to(4, "CdCD", "abAB", 2), ("forms", ["aabb", "abaB"], "abAB"))
        self.assertEqual(led_to(2, "aabb", "aaaa", 2), ("forms", ["aabb", "abaB"], "aaaa"))
        self.assertEqual(led_to(3, "aaaa", "caabbC", 1), ("forms", ["aaaa"], "aabb"))

    def test_the_form_of_the_second_ones_shortest_ring(self):
        self.assertEqual(led_to(2, "abAB", "abaB", 1), ("forms", ["abAB"], "abaB"))
        self.assertEqual(led_to(2, "abAB", "aabb", 1), ("forms", ["abAB"], "aabb"))
        # aabb with ab told for a.
        self.assertEqual(led_to(2, "abAB", "ababbb", 1), ("forms", ["abAB"], "aabb"))
        self.assertEqual(led_to(2, "ababbb", "abAB", 2), ("forms", ["aabb", "abaB"], "abAB"))

    def test_by_chance(self):
        source = helping.chance(143)
        kinds = {}
        for again in range(500):
            n = source.randint(2, 4)
            one, other = word_by_chance(source, n), word_by_chance(source, n)
            try:
                kind = self.look(n, one, other)
            except TooMany:
                kind = "many"
            kinds[kind] = kinds.get(kind, 0) + 1
        self.assertGreaterEqual(min(kinds.get(kind, 0) for kind in ("led", "lengths", "forms")), 5, kinds)

    def test_led_just_where_the_forms_are_the_same(self):
        rings = ["aabb", "abaB", "abAB", "aaaa", "aabbcc", "abcaBC", "aabAbb", "aabaBB", "aaaabb", "abaBcc"]
        for one in rings:
            for other in rings:
                if len(one) == len(other) and helping.shorter_by_the_book(3, (other,)) is None:
                    same = helping.forms_by_the_book(3, one) == helping.forms_by_the_book(3, other)
                    self.assertEqual(self.look(3, one, other), "led" if same else "forms")


class Refused(Look):
    def test_more_forms_than_most(self):
        forms = forms_from(3, "aabbcc", 9)
        for most in (1, 8):
            for form in forms:
                self.refused(3, "aabbcc", form, most)
            self.refused(3, "aabbcc", "aabaBB", most)
            self.refused(3, "caabbccC", "aaaaaa", most)

    def test_the_rings_are_the_same(self):
        self.refused(2, "aabb", "aabb", 1)
        self.refused(2, "abba", "aabb", 1)
        self.refused(4, "aaabbcc", "aaabbcc", 12)
        self.assertEqual(led_to(2, "aabb", "aabb", 2), ("led", ()))

    def test_the_first_ones_forms_count_alone(self):
        self.refused(3, "aaabbcc", "abaBcaC", 12)
        told = led_to(3, "abaBcaC", "aaabbcc", 1)
        self.assertEqual(told, ("forms", ["abaBcaC"], "aaabbcc"))
        self.refused(2, "aabb", "abAB", 1)
        self.assertEqual(self.look(2, "abAB", "aabb", 1), "forms")

    def test_lengths_go_ahead(self):
        self.assertEqual(self.look(3, "aaabbcc", "a", 1), "lengths")
        self.assertEqual(self.look(3, "aabb", "aaabbcc", 1), "lengths")
        self.assertEqual(self.look(3, "aabb", "", 1), "lengths")

    def test_the_refusal(self):
        refusal = helping.refusal_of(self, TooMany, led_to, 2, "aabb", "abaB", 1)
        self.assertIsInstance(refusal, LetterError)
        self.assertIsInstance(refusal, ValueError)


class AskedAgain(Look):
    def test_the_list_is_the_askers_own(self):
        first = led_to(2, "aabb", "abAB", 12)
        first[1].clear()
        first[1].append("abAB")
        self.assertEqual(led_to(2, "aabb", "abAB", 12), ("forms", ["aabb", "abaB"], "abAB"))
        self.assertEqual(forms_from(2, "aabb", 12), ["aabb", "abaB"])

    def test_behind_other_ones(self):
        asked = ((2, "aabb", "abaB", 12), (4, "aabb", "abaB", 12), (2, "ab", "aa", 12), (3, "abAB", "aabb", 2),
                 (2, "aabAbb", "bbaBaa", 1), (3, "aabbcc", "abcaBC", 9))
        first = [led_to(*question) for question in asked]
        self.refused(3, "aabbcc", "abcaBC", 8)
        for question, told in list(zip(asked, first))[::-1] + list(zip(asked, first)):
            self.assertEqual(led_to(*question), told)

    def test_what_is_told_is_handed_on(self):
        alphabet = helping.long_alphabet(16)
        one, other = retold(alphabet, "aabb"), retold(alphabet, "aabbcc")
        self.assertGreater(len(one), 1000)
        road = led_to(3, one, "aabb", 12)[1]
        self.assertEqual(rows_along(3, (ring_of(one),), road)[-1], ("aabb",))
        self.assertEqual(rows_along(3, ("aabb",), road_back(3, road))[-1], (ring_of(one),))
        self.assertEqual(led_to(3, one, other, 12)[0], "lengths")
        self.assertEqual(led_to(3, one, retold(alphabet, "abAB"), 12), ("forms", ["aabb", "abaB"], "abAB"))


if __name__ == "__main__":
    unittest.main()
