import unittest

import helping
from newletters.errors import NoText
from newletters.retellingtexts import read_retelling, show_retelling
from newletters.retellings import told_then

SHOWN = (
    (("a",), "a = a"),
    (("",), "a = ."),
    (("AA",), "a = AA"),
    (("ab", "B"), "a = ab\nb = B"),
    (("", "ba"), "a = .\nb = ba"),
    (("b", ""), "a = b\nb = ."),
    (("cab", "", "AC"), "a = cab\nb = .\nc = AC"),
    (("", "", "", ""), "a = .\nb = .\nc = .\nd = ."),
    (("d", "cD", "aaa", "B"), "a = d\nb = cD\nc = aaa\nd = B"),
)


class ShowRetelling(unittest.TestCase):
    def test_some(self):
        for retelling, text in SHOWN:
            self.assertEqual(show_retelling(retelling), text)


class ReadRetelling(unittest.TestCase):
    def refused_row(self, text):
        return helping.refusal_of(self, NoText, read_retelling, text).row

    def look_refused(self, row, *texts):
        for text in texts:
            self.assertEqual(self.refused_row(text), row, text)

    def test_some(self):
        for retelling, text in SHOWN:
            told = read_retelling(text)
            self.assertEqual(told, retelling)
            self.assertIs(type(told), tuple)
            self.assertTrue(all(type(word) is str for word in told))

    def test_written_and_read_again(self):
        source = helping.chance(31)
        for again in range(200):
            n = source.randint(1, 4)
            retelling = tuple(helping.word_by_chance(source, n, source.randint(0, 8)) for place in range(n))
            self.assertEqual(read_retelling(show_retelling(retelling)), retelling)

    def test_long_words_are_read_again(self):
        growing = ("ab", "a")
        for again in range(12):
            growing = told_then(growing, ("ab", "a"))
        self.assertEqual(read_retelling(show_retelling(growing)), growing)

    def test_the_text_without_signs(self):
        self.look_refused(0, "")

    def test_an_empty_row(self):
        self.look_refused(0, "\na = a", "\n", "\n\n\n\n\n")
        self.look_refused(1, "a = a\n\nb = b", "a = a\n\n")
        self.look_refused(2, "a = a\nb = b\n\nc = c")

    def test_rows_exchanged(self):
        self.look_refused(0, "b = b\na = a", "b = .", "d = d\nb = b\nc = c\na = a")
        self.look_refused(1, "a = a\nc = c\nb = b")
        self.look_refused(2, "a = a\nb = b\nd = d\nc = c")

    def test_rows_told_twice_or_left_out(self):
        self.look_refused(1, "a = a\na = a", "a = a\nc = a", "a = a\na = a\nb = b")
        self.look_refused(2, "a = a\nb = b\nb = b", "a = a\nb = b\nd = b")
        self.look_refused(3, "a = a\nb = b\nc = c\nc = c")

    def test_a_line_feed_at_the_end(self):
        self.look_refused(1, "a = a\n")
        self.look_refused(2, "a = a\nb = b\n", "a = ac\nb = C\n")
        self.look_refused(3, "a = a\nb = b\nc = c\n")
        self.look_refused(4, "a = a\nb = b\nc = c\nd = d\n")

    def test_another_letter_ahead(self):
        self.look_refused(0, "A = a", "e = a", "x = a\nb = b", ". = a", " = a", "aa = a", " a = a")
        self.look_refused(1, "a = a\nB = b", "a = a\n= b", "a = a\nab = b")

    def test_the_sign_and_its_blanks(self):
        self.look_refused(0, "a =a", "a= a", "a=a", "a  = a", "a =  a", "a = a ", "a", "a =", "a ", "=", "a - a",
                          "a : a", "a == a", "a\t=\ta", "a a")
        self.look_refused(1, "a = a\nb =b", "a = a\nb  = b", "a = a\nb = b ", "a = a\n b = b")

    def test_no_word(self):
        self.look_refused(0, "a = ", "a =  ")
        self.look_refused(1, "a = b\nb = ")

    def test_letters_that_are_none_of_n(self):
        self.look_refused(0, "a = b", "a = c\nb = b", "a = aD\nb = b\nc = c", "a = e\nb = b\nc = c\nd = d", "a = ab")
        self.look_refused(1, "a = a\nb = c", "a = a\nb = 1", "a = b\nb = aD\nc = d")
        self.look_refused(2, "a = a\nb = c\nc = D")
        self.assertEqual(read_retelling("a = a\nb = c\nc = B"), ("a", "c", "B"))

    def test_words_that_are_not_plain(self):
        self.look_refused(0, "a = aA", "a = abB\nb = b")
        self.look_refused(1, "a = a\nb = Bb", "a = a\nb = abBA")
        self.look_refused(3, "a = a\nb = b\nc = c\nd = dcCd")

    def test_the_dot_beside_letters(self):
        self.look_refused(0, "a = .a", "a = a.", "a = ..", "a = . ", "a = a . a")
        self.look_refused(1, "a = a\nb = b.")

    def test_a_fifth_row(self):
        four = "a = d\nb = b\nc = c\nd = a"
        self.look_refused(4, four + "\ne = e", four + "\na = a", four + "\n\n", four + "\ne = e\nf = f", four + "\nd = d")

    def test_a_faulty_row_ahead_of_the_fifth(self):
        self.look_refused(0, "a = e\nb = b\nc = c\nd = d\ne = e")
        self.look_refused(2, "a = d\nb = b\nc = cC\nd = d\ne = e", "a = d\nb = b\n\nc = c\nd = d")
        self.look_refused(3, "a = d\nb = b\nc = c\nd = e\ne = e\nf = f")

    def test_of_several_faulty_rows_the_first(self):
        self.look_refused(0, "a = aA\nb = ")
        self.look_refused(1, "a = a\nx\ny")

    def test_the_row_is_a_whole_number(self):
        for text in ("", "a = a\n", "a = a\nb = b\nc = c\nd = d\n"):
            self.assertIs(type(self.refused_row(text)), int)

    def test_read_again_behind_a_refusal(self):
        self.look_refused(1, "a = a\n")
        self.assertEqual(read_retelling("a = a"), ("a",))
        self.look_refused(1, "a = a\n")


if __name__ == "__main__":
    unittest.main()
