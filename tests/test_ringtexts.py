import unittest

import helping
from newletters.errors import LetterError, NoText
from newletters.retellings import ring_retold
from newletters.ringtexts import read_rings, show_rings

TEXTS = (
    ((), ""),
    (("",), "."),
    (("", ""), ". ."),
    (("a",), "a"),
    (("aab", "", "ab"), "aab . ab"),
    (("ab", "ab", "ab"), "ab ab ab"),
    (("abAB", "cdCD"), "abAB cdCD"),
    (("D", "AAb", "", "d"), "D AAb . d"),
)


class ShowRings(unittest.TestCase):
    def test_some(self):
        for rings, text in TEXTS:
            self.assertEqual(show_rings(rings), text)
            self.assertIs(type(show_rings(rings)), str)


class ReadRings(unittest.TestCase):
    def test_some(self):
        for rings, text in TEXTS:
            told = read_rings(4, text)
            self.assertIs(type(told), tuple)
            self.assertEqual(told, rings)

    def test_there_and_back(self):
        source = helping.chance(181)
        for again in range(200):
            n = source.randint(1, 4)
            rings = helping.row_by_chance(source, n)
            text = show_rings(rings)
            for more in range(n, 5):
                self.assertEqual(read_rings(more, text), rings)
            self.assertEqual(show_rings(read_rings(n, text)), text)

    def test_all_short_words(self):
        for n in (1, 2, 3):
            for word in helping.plain_words(3, 3):
                if word and word == helping.ring_by_the_book(word) and set(word) <= set(helping.letters_upto(n)):
                    self.assertEqual(read_rings(n, "a " + word), ("a", word))
                else:
                    self.refused(n, "a " + word, 1)

    def refused(self, n, text, row):
        refusal = helping.refusal_of(self, NoText, read_rings, n, text)
        self.assertEqual(refusal.row, row, text)
        self.assertIsInstance(refusal, LetterError)
        self.assertIsInstance(refusal, ValueError)

    def test_words_that_are_no_rings(self):
        for word in ("ba", "aba", "Aa", "aA", "abA", "bab", "aaB" + "b", "BA", "abaab", "Ab" + "a", "bB"):
            self.refused(2, word, 0)
            self.refused(2, "ab " + word, 1)
            self.refused(4, ". " + word + " ab", 1)

    def test_other_letters(self):
        self.refused(1, "b", 0)
        self.refused(1, "a A B", 2)
        self.refused(2, "ab abc", 1)
        self.refused(3, "d", 0)
        self.refused(4, "a e", 1)
        self.refused(4, "E", 0)

    def test_other_signs(self):
        for word in ("..", "a.", ".a", "-", "1", "a,b", "a\tb", "~", "a;", "|", ":", "a=b", "\n", "a\n", "\na"):
            self.refused(4, word, 0)
            self.refused(4, "ab . " + word, 2)

    def test_blanks(self):
        self.refused(2, " ", 0)
        self.refused(2, "  ", 0)
        self.refused(2, " a", 0)
        self.refused(2, "a ", 1)
        self.refused(2, "a  b", 1)
        self.refused(2, "a b  ab", 2)
        self.refused(2, "a b ", 2)
        self.refused(2, ". ", 1)
        self.refused(2, "a  ba", 1)
        self.refused(2, " ba", 0)

    def test_line_feeds(self):
        self.refused(2, "a\nb", 0)
        self.refused(2, "a b\n", 1)
        self.refused(2, "\n", 0)

    def test_the_first_of_several(self):
        self.refused(2, "ab ba abc", 1)
        self.refused(2, "ab abc ba", 1)
        self.refused(2, "ab  ba", 1)
        self.refused(1, "a A a b B", 3)

    def test_asked_with_another_n_between(self):
        self.assertEqual(read_rings(2, "ab"), ("ab",))
        self.refused(1, "ab", 0)
        self.assertEqual(read_rings(2, "ab"), ("ab",))
        self.refused(2, "abc", 0)
        self.assertEqual(read_rings(3, "abc"), ("abc",))

    def test_what_is_told_is_handed_on(self):
        rings = tuple(ring_retold(helping.long_alphabet(15), ring) for ring in ("aab", "", "abC"))
        text = show_rings(rings)
        self.assertGreater(len(text), 800)
        self.assertEqual(read_rings(3, text), rings)


if __name__ == "__main__":
    unittest.main()
