import unittest

import helping
from newletters.alphabets import leading_back, look_alphabet
from newletters.desk import answered
from newletters.errors import LetterError, NoAlphabet, NoRow, NoWord, TooMany
from newletters.leading import led_to
from newletters.primitives import as_letter, letters_needed
from newletters.ringtexts import read_rings
from newletters.roadtexts import read_road, show_road
from newletters.splits import split_rings
from newletters.webs import is_read, web_of

# n, a row and its answer, where the document leaves no choice.
ANSWERS = (
    (1, "ring .", "."), (1, "ring a", "a"), (1, "ring AA", "AA"), (2, "ring baB", "a"), (3, "ring cbaC", "ab"),
    (4, "ring dAD", "A"), (2, "ring babA", "abAb"), (4, "ring dcba", "adcb"),
    (1, "short .", "0 ."), (1, "short a", "1 a"), (2, "short ab", "1 b"), (2, "short aab . ab", "2 a . b"),
    (2, "short abAB", "4 abAB"), (2, "short bABa", "4 abAB"), (3, "short . .", "0 . ."), (2, "short baB", "1 a"),
    (2, "short ab ba ab", "3 b b b"), (2, "short ab ab ab aaBB", "9 b b b aaaBaB"),
    (1, "led . | .", "led"), (1, "led a | a", "led"), (2, "led ab | ba", "led"), (3, "led caC | a", "led"),
    (1, "led . | a", "lengths 0 1"), (1, "led aaa | aa", "lengths 3 2"), (2, "led ab | abAB", "lengths 1 4"),
    (2, "led baB | bb", "lengths 1 2"), (2, "led abAB | aabb", "forms 1"), (2, "led aabb | abAB", "forms 2"),
    (3, "led aabbcc | aaaaaa", "forms 9"), (4, "led bcBC | ccdd", "forms 1"), (3, "led abaBcaC | aaabbcc", "forms 1"),
    (3, "led aaabbcc | aaabbcc", "many"), (4, "led aaabbcc | abaBcaC", "many"), (3, "led aabaBcc | aaabbcc", "many"),
    (1, "letter .", "no"), (1, "letter a", "yes a"), (1, "letter A", "yes A"), (1, "letter aa", "no"),
    (2, "letter abAB", "no"), (3, "letter aabbcc", "no"), (4, "letter dd", "no"),
    (1, "needs .", "0"), (1, "needs a", "1"), (2, "needs abab", "1"), (2, "needs abAB", "2"), (4, "needs cdCD", "2"),
    (3, "needs aabbcc", "3"), (4, "needs aabbccdd", "4"), (4, "needs abcd", "1"),
    (1, "split .", "none"), (4, "split . . .", "none"), (1, "split a", "1:0"), (2, "split aa bb", "1:0 1:1"),
    (3, "split aa cc bbbb", "1:0 1:1 1:2"), (3, "split aa bbcc AAA", "1:0,2 2:1"), (2, "split abAB", "2:0"),
    (4, "split dd . abAB D", "1:0,3 2:2"), (2, "split ab b", "1:0 1:1"), (2, "split baB . aa", "1:0,2"),
    (1, "back a", "a"), (1, "back A", "A"), (1, "back .", "none"), (1, "back aa", "none"), (2, "back ab b", "aB b"),
    (2, "back b a", "b a"), (2, "back a bb", "none"), (2, "back a .", "none"), (3, "back b c a", "c a b"),
    (2, "back ab ab", "none"), (4, "back a b c dA", "a b c da"),
    (1, "reads : .", "yes"), (1, "reads : a", "no"), (1, "reads . : .", "yes"), (1, "reads aa : AAAA", "yes"),
    (1, "reads aa : a", "no"), (2, "reads aa b : aabAA", "yes"), (2, "reads aa b : aba", "no"),
    (2, "reads ab : BA", "yes"), (2, "reads ab aB : aa", "no"), (2, "reads ab aB : abbA", "yes"),
    (3, "reads abC . : cBA", "yes"), (4, "reads a b c d : dcbA", "yes"),
)


def shown(word):
    return word or "."


def words_by_chance(source, n, many, longest=6):
    return [helping.word_by_chance(source, n, source.randint(0, longest)) for again in range(many)]


class Answers(unittest.TestCase):
    def test_some(self):
        for n, row, answer in ANSWERS:
            told = answered(n, row)
            self.assertIs(type(told), str)
            self.assertEqual(told, answer, row)

    def test_asked_again_behind_other_rows(self):
        source = helping.chance(201)
        for n, row, answer in source.sample(ANSWERS, len(ANSWERS)) + list(ANSWERS):
            self.assertEqual(answered(n, row), answer, row)

    def test_ring(self):
        source = helping.chance(202)
        for again in range(100):
            n = source.randint(1, 4)
            word = words_by_chance(source, n, 1, 40)[0]
            self.assertEqual(answered(n, "ring " + shown(word)), shown(helping.ring_by_the_book(word)))

    def test_short(self):
        source = helping.chance(203)
        for again in range(60):
            n = source.randint(1, 4)
            words = words_by_chance(source, n, source.randint(1, 4))
            rings = tuple(helping.ring_by_the_book(word) for word in words)
            row = helping.shortest_by_the_book(n, rings)
            told = answered(n, "short " + " ".join(map(shown, words)))
            self.assertEqual(told, f"{len(''.join(row))} " + " ".join(map(shown, row)))
            self.assertEqual(read_rings(n, told.partition(" ")[2]), row)
            self.assertEqual(answered(n, "short " + " ".join(map(shown, rings))), told)

    def test_led(self):
        for n, one, other in ((2, "aabb", "abaB"), (1, "a", "A"), (3, "abc", "c"), (4, "abAB", "CdcD"),
                              (2, "ab", "bbaBB"), (3, "aabbcc", "abcaBC"), (2, "aaaabb", "aabAAb")):
            told = answered(n, f"led {one} | {other}")
            self.assertEqual(told[:4], "led ")
            road = read_road(n, told[4:].replace(";", "\n"))
            self.assertEqual(road, led_to(n, one, other, 12)[1])
            end = helping.end_of_road(n, (helping.ring_by_the_book(one),), road)
            self.assertEqual(end, (helping.ring_by_the_book(other),))
        self.assertEqual(answered(1, "led a | A"), "led exchange A")

    def led_by_the_book(self, n, one, other):
        try:
            told = led_to(n, one, other, 12)
        except TooMany:
            return "many"
        if told[0] == "lengths":
            rows = [helping.shortest_by_the_book(n, (helping.ring_by_the_book(word),)) for word in (one, other)]
            return f"lengths {len(rows[0][0])} {len(rows[1][0])}"
        if told[0] == "forms":
            return f"forms {len(told[1])}"
        return "led" + " " * (len(told[1]) > 0) + show_road(told[1]).replace("\n", ";")

    def test_led_as_led_to_tells(self):
        source = helping.chance(204)
        kinds = {}
        for again in range(200):
            n = source.randint(1, 4)
            size = source.randint(0, 6 if n > 2 else 10)
            one, other = [helping.word_by_chance(source, min(n, 3), size) for word in range(2)]
            if source.random() < 0.4:
                other = helping.retold_by_the_book(helping.alphabet_by_chance(source, n, 1), one)
            told = answered(n, f"led {shown(one)} | {shown(other)}")
            self.assertEqual(told, self.led_by_the_book(n, one, other), (one, other))
            kinds[told.split(" ")[0]] = True
        self.assertLessEqual({"led", "lengths", "forms"}, set(kinds))

    def test_most_is_twelve(self):
        self.assertEqual(answered(2, "led " + "a" * 22 + "bb | " + "a" * 24), "forms 12")
        self.assertEqual(answered(2, "led " + "a" * 24 + "bb | " + "a" * 26), "many")

    def test_letter(self):
        source = helping.chance(205)
        found = {}
        for again in range(150):
            n = source.randint(1, 4)
            word = words_by_chance(source, n, 1)[0]
            if source.random() < 0.4:
                word = helping.alphabet_by_chance(source, n, 2)[0]
            told = answered(n, "letter " + shown(word))
            kind, alphabet = as_letter(n, word)
            self.assertEqual(told, " ".join(("yes",) + alphabet) if kind == "letter" else "no")
            if kind == "letter":
                self.assertEqual(told.split(" ")[1], word)
                self.assertIs(look_alphabet(tuple(told.split(" ")[1:])), True)
            found[kind] = True
        self.assertEqual(set(found), {"letter", "none"})

    def test_needs(self):
        source = helping.chance(206)
        for again in range(80):
            n = source.randint(1, 4)
            word = words_by_chance(source, n, 1, 12)[0]
            self.assertEqual(answered(n, "needs " + shown(word)), str(letters_needed(n, word)[0]))

    def test_split(self):
        source = helping.chance(207)
        many = set()
        for again in range(100):
            n = source.randint(1, 4)
            words = words_by_chance(source, n, source.randint(1, 4), 4)
            told = answered(n, "split " + " ".join(map(shown, words)))
            parts = split_rings(n, tuple(helping.ring_by_the_book(word) for word in words))[2]
            due = [f"{len(letters)}:" + ",".join(map(str, rings)) for letters, rings in parts]
            self.assertEqual(told, " ".join(due) or "none", words)
            many.add(len(parts))
        self.assertLessEqual({0, 1, 2}, many)

    def test_back(self):
        source = helping.chance(208)
        for again in range(100):
            n = source.randint(1, 4)
            words = helping.alphabet_by_chance(source, n, 1)
            if source.random() < 0.4:
                words = tuple(words_by_chance(source, n, n, 4))
            try:
                due = " ".join(leading_back(words))
            except NoAlphabet:
                due = "none"
            self.assertEqual(answered(n, "back " + " ".join(map(shown, words))), due, words)

    def test_reads(self):
        source = helping.chance(209)
        told = set()
        for again in range(150):
            n = source.randint(1, 4)
            words = words_by_chance(source, n, source.randint(0, 3), 3)
            word = words_by_chance(source, n, 1, 3)[0]
            if words and source.random() < 0.5:
                word = helping.taken_out(source.choice(words) + helping.backwards(source.choice(words)))
            row = " ".join(["reads"] + list(map(shown, words)) + [":", shown(word)])
            due = "yes" if is_read(web_of(n, words), word) else "no"
            self.assertEqual(answered(n, row), due, row)
            told.add(due)
        self.assertEqual(told, {"yes", "no"})

    def test_asked_with_another_n_between(self):
        for n in (2, 3, 4, 3, 2):
            self.assertEqual(answered(n, "letter ab").split(" ")[:2], ["yes", "ab"])
            self.assertEqual(len(answered(n, "letter ab").split(" ")), n + 1)
        self.assertEqual(answered(2, "back b a"), "b a")
        helping.refusal_of(self, NoRow, answered, 3, "back b a")
        helping.refusal_of(self, NoWord, answered, 1, "ring b")
        self.assertEqual(answered(2, "ring b"), "b")


class Refused(unittest.TestCase):
    def no_row(self, n, row):
        refusal = helping.refusal_of(self, NoRow, answered, n, row)
        self.assertIsInstance(refusal, LetterError)
        self.assertIsInstance(refusal, ValueError)

    def no_word(self, n, row, at):
        refusal = helping.refusal_of(self, NoWord, answered, n, row)
        self.assertEqual(refusal.at, at, row)
        self.assertIsInstance(refusal, LetterError)
        self.assertIsInstance(refusal, ValueError)

    def test_no_text(self):
        for thing in (None, 0, 1, True, [], ["ring", "a"], ("ring", "a"), {}, ()):
            self.no_row(2, thing)

    def test_blanks(self):
        for row in ("", " ", "  ", " ring a", "ring a ", "ring  a", "ring a  ", "ring ", " ring", "short a  b",
                    "led a  | b", "led a | b ", "led a |  b", " led a | b", "reads  : a", "reads : a ", "reads :  a",
                    "back a b ", "back  a b", "split a ", "short ", "split  "):
            self.no_row(2, row)

    def test_other_first_words(self):
        for row in ("a", ".", "rings a", "Ring a", "rin a", "ringa", "RING a", "length a", "word a", "a ring", "| a",
                    ": a", "ring: a", "ring\ta", "ring\na", "\nring a", "shorts a", "no", "yes a", "leads a | b",
                    "needs: a", "letters a", "read : a", "backs a b", "splits a", "reads: a", "many", "none a"):
            self.no_row(2, row)

    def test_one_word_is_due(self):
        for kind in ("ring", "letter", "needs"):
            for row in (kind, kind + " a b", kind + " a b a", kind + " . .", kind + " a | b", kind + " a : b"):
                self.no_row(2, row)

    def test_some_words_are_due(self):
        self.no_row(2, "short")
        self.no_row(2, "split")

    def test_the_bar(self):
        for row in ("led", "led a", "led a b", "led a |", "led | a", "led a b |", "led | a b", "led a b b",
                    "led a | b b", "led a b | b", "led |", "led | |", "led a : b", "led a || b", "led a| b", "led a |b",
                    "led a|b", "led a | b |", "led | a | b", "led | | | |"):
            self.no_row(2, row)

    def test_as_many_words_as_letters(self):
        for n in range(1, 5):
            for many in range(0, 7):
                row = " ".join(["back"] + ["a"] * many)
                if many == n:
                    self.assertEqual(answered(n, row), "a" if n == 1 else "none")
                else:
                    self.no_row(n, row)

    def test_the_colon(self):
        for row in ("reads", "reads :", "reads a", "reads a :", "reads a b", "reads a : b b", "reads a b :",
                    "reads : a b", "reads a | b", "reads a: b", "reads a :b", "reads a:b", "reads a :: b"):
            self.no_row(2, row)

    def test_a_bar_or_a_colon_elsewhere_is_a_word(self):
        self.no_word(2, "ring |", 0)
        self.no_word(2, "ring :", 0)
        self.no_word(2, "short a | b", 0)
        self.no_word(2, "split a : b", 0)
        self.no_word(2, "back a |", 0)
        self.no_word(2, "back : :", 0)
        self.no_word(2, "led | | a", 0)
        self.no_word(2, "led | | |", 0)
        self.no_word(2, "led a | :", 0)
        self.no_word(2, "reads : : a", 0)
        self.no_word(2, "reads : :", 0)
        self.no_word(2, "reads a : b : a", 0)
        self.no_word(2, "reads a | : a", 0)
        self.no_word(2, "reads a : |", 0)

    def test_the_row_goes_ahead_of_the_words(self):
        for row in ("ring x y", "led x y", "led x | y z", "back x", "reads x y", "short x  y", "rings x", "ring x ",
                    "back abc x y", "reads : x y", "led aA aA"):
            self.no_row(2, row)

    def test_words_that_are_none(self):
        for kind in ("ring", "short", "letter", "needs", "split"):
            for n, word, at in ((1, "b", 0), (1, "ab", 1), (2, "abc", 2), (2, "aA", 1), (2, "abBa", 2), (3, "abcd", 3),
                                (4, "abcde", 4), (4, "a.", 1), (4, ".a", 0), (4, "..", 0), (2, "a1", 1), (2, "-", 0),
                                (2, "a\n", 1), (2, "ab,", 2), (2, "aAx", 1), (2, "axA", 1), (2, "a\tb", 1)):
                self.no_word(n, f"{kind} {word}", at)

    def test_the_first_from_the_left(self):
        self.no_word(2, "short ab abc aA", 2)
        self.no_word(2, "split ab aA abc", 1)
        self.no_word(2, "short . . x", 0)
        self.no_word(2, "led abx | y", 2)
        self.no_word(2, "led ab | aby", 2)
        self.no_word(2, "led . | aA", 1)
        self.no_word(3, "back a bB abd", 1)
        self.no_word(3, "back a b abd", 2)
        self.no_word(2, "reads a abc : x", 2)
        self.no_word(2, "reads a ab : abx", 2)
        self.no_word(2, "reads : abx", 2)
        self.no_word(2, "reads x : abx", 0)

    def test_refused_behind_answers(self):
        self.assertEqual(answered(3, "ring c"), "c")
        self.no_word(2, "ring c", 0)
        self.assertEqual(answered(3, "ring c"), "c")
        self.no_row(3, "ring")
        self.assertEqual(answered(3, "ring c"), "c")


if __name__ == "__main__":
    unittest.main()
