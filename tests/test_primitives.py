import unittest

import helping
from newletters.alphabets import leading_back, look_alphabet
from newletters.papers import paper_holds
from newletters.primitives import as_letter, letters_needed
from newletters.retellings import retold
from newletters.rings import ring_of
from newletters.roads import rows_along
from newletters.shortening import made_shorter

# Words that are no letters of any alphabet, with the least n of which they are.
NO_LETTERS = (
    (1, ""), (1, "aa"), (1, "AAA"), (2, "bb"), (2, "aabb"), (2, "aaBB"), (2, "abAB"), (2, "abab"), (2, "babABB"),
    (2, "AbbA"), (3, "aabbcc"), (3, "abcabc"), (3, "bccB"), (3, "abABc" * 2), (4, "aabbccdd"), (4, "abABcdCD"),
)


def words_of_alphabets(seed, many, longest=12):
    """n and a word of an alphabet, turned by another word."""
    source = helping.chance(seed)
    while many > 0:
        n = source.randint(1, 4)
        turn = helping.word_by_chance(source, n, source.randint(0, 2))
        word = source.choice(helping.alphabet_by_chance(source, n, source.randint(0, 4)))
        word = helping.taken_out(turn + word + helping.backwards(turn))
        if len(word) <= longest:
            many -= 1
            yield n, word


def words_by_chance(seed, many):
    source = helping.chance(seed)
    for again in range(many):
        n = source.randint(1, 4)
        yield n, helping.word_by_chance(source, n, source.randint(0, 12))


class AsLetter(unittest.TestCase):
    def look_letter(self, n, word):
        told = as_letter(n, word)
        self.assertIs(type(told), tuple)
        self.assertEqual((told[0], len(told)), ("letter", 2), word)
        alphabet = told[1]
        self.assertIs(type(alphabet), tuple)
        self.assertEqual(len(alphabet), n)
        self.assertEqual(alphabet[0], word)
        self.assertTrue(all(helping.is_plain(other) for other in alphabet))
        self.assertIs(look_alphabet(alphabet), True)
        back = leading_back(alphabet)
        self.assertEqual(helping.then_by_the_book(alphabet, back), tuple("abcd"[:n]), word)
        self.assertEqual(retold(back, word), "a")

    def look_none(self, n, word):
        told = as_letter(n, word)
        self.assertIs(type(told), tuple)
        self.assertEqual((told[0], len(told)), ("none", 2), word)
        row = (helping.ring_by_the_book(word),)
        self.assertIsNone(helping.fault_by_the_book(n, row, told[1]), word)
        self.assertIs(paper_holds(n, row, told[1]), True)

    def test_each_letter(self):
        for n in range(1, 5):
            for letter in helping.letters_upto(n):
                self.look_letter(n, letter)

    def test_some(self):
        for n, word in ((2, "ab"), (2, "bA"), (2, "aab"), (2, "abA"), (2, "Bab"), (2, "ababb"), (2, "bAbAb"),
                        (3, "abcab"), (3, "aabAAc"), (3, "bcB"), (3, "cabC"), (4, "abcd"), (4, "DabcddA"),
                        (4, "aabbcda"), (4, "CdcaabbC")):
            self.look_letter(n, word)

    def test_the_word_itself_and_not_its_ring_alone(self):
        for n, word in ((1, "a"), (2, "ba"), (2, "abA"), (2, "bbaBB"), (3, "caabC"), (4, "dcbaBCD")):
            self.assertEqual(as_letter(n, word)[1][0], word)
            self.look_letter(n, word)

    def test_words_of_alphabets(self):
        lengths = set()
        for n, word in words_of_alphabets(151, 300):
            self.look_letter(n, word)
            lengths.add((n, len(word)))
        self.assertLessEqual({(2, 8), (3, 9), (4, 9), (4, 11)}, lengths)

    def test_none(self):
        for least, word in NO_LETTERS:
            for n in range(least, 5):
                self.look_none(n, helping.taken_out(word))

    def test_told_over_again(self):
        for n, word in words_of_alphabets(152, 60, 6):
            self.look_none(n, helping.taken_out(word + word))
            self.look_none(n, helping.taken_out(word + word + word))

    def test_all_short_ones(self):
        for n, longest in ((1, 4), (2, 5), (3, 3)):
            for word in helping.plain_words(n, longest):
                shortest = helping.shortest_by_the_book(n, (helping.ring_by_the_book(word),))
                if len(shortest[0]) == 1:
                    self.look_letter(n, word)
                else:
                    self.look_none(n, word)

    def test_by_chance(self):
        for n, word in words_by_chance(153, 200):
            shortest = helping.shortest_by_the_book(n, (helping.ring_by_the_book(word),))
            if len(shortest[0]) == 1:
                self.look_letter(n, word)
            else:
                self.look_none(n, word)

    def test_turned_back_as_the_word_is(self):
        for n, word in list(words_by_chance(154, 60)) + list(words_of_alphabets(155, 60)):
            back = helping.backwards(word)
            self.assertEqual(as_letter(n, back)[0], as_letter(n, word)[0])
            if as_letter(n, word)[0] == "letter":
                self.look_letter(n, back)

    def test_asked_again_behind_another_one(self):
        asked = list(words_by_chance(156, 20)) + list(words_of_alphabets(157, 20))
        first = [(as_letter(n, word), letters_needed(n, word)) for n, word in asked]
        for (n, word), told in list(zip(asked, first))[::-1]:
            self.assertEqual((as_letter(n, word), letters_needed(n, word)), told)

    def test_what_is_told_is_handed_on(self):
        alphabet = helping.long_alphabet(16)
        for word in alphabet + (alphabet[0] + alphabet[1],):
            told = as_letter(3, word)
            self.assertEqual((told[0], told[1][0]), ("letter", word))
            self.assertEqual(retold(leading_back(told[1]), word), "a")
        word = retold(alphabet, "aabb")
        self.assertGreater(len(word), 1000)
        told = as_letter(3, word)
        self.assertEqual(told[0], "none")
        self.assertIs(paper_holds(3, (ring_of(word),), told[1]), True)
        self.assertEqual(letters_needed(3, word)[0], 2)


class LettersNeeded(unittest.TestCase):
    def look(self, n, word):
        told = letters_needed(n, word)
        self.assertIs(type(told), tuple)
        self.assertEqual(len(told), 2)
        many, road = told
        self.assertIs(type(many), int)
        self.assertTrue(helping.is_road_by_the_book(n, road), road)
        begin = (helping.ring_by_the_book(word),)
        end = helping.end_of_road(n, begin, road)
        self.assertEqual(([begin] + rows_along(n, begin, road))[-1], end)
        self.assertIsNone(helping.shorter_by_the_book(n, end), word)
        self.assertIsNone(made_shorter(n, end))
        self.assertEqual(set(end[0].lower()), set("abcd"[:many]), (word, road))
        return many

    def test_without_letters(self):
        for n in range(1, 5):
            self.assertEqual(self.look(n, ""), 0)

    def test_each_letter(self):
        for n in range(1, 5):
            for letter in helping.letters_upto(n):
                self.assertEqual(self.look(n, letter), 1)
                self.assertEqual(self.look(n, letter * 4), 1)

    def test_some(self):
        for n, word, many in ((2, "abAB", 2), (2, "aabb", 2), (2, "abab", 1), (2, "bbaBB", 1), (4, "dd", 1),
                              (4, "cdCD", 2), (4, "bDbD", 1), (3, "aabbcc", 3), (3, "abABc", 1), (3, "ccabABCC", 2),
                              (3, "abABcc", 3),
                              (4, "ddBdBd", 2), (4, "aabbccdd", 4), (4, "bbccdd", 3), (4, "abABcdCD", 4),
                              (4, "caabbC", 2), (4, "aBDaBD", 1), (3, "acbcacbc", 1)):
            self.assertEqual(self.look(n, word), many, word)

    def test_letters_of_alphabets(self):
        for n, word in words_of_alphabets(158, 100):
            self.assertEqual(self.look(n, word), 1, word)
            self.assertEqual(self.look(n, helping.taken_out(word + word)), 1, word)

    def test_by_chance(self):
        found = set()
        for n, word in words_by_chance(159, 300):
            found.add((n, self.look(n, word)))
        self.assertLessEqual({(1, 0), (1, 1), (2, 1), (2, 2), (3, 1), (3, 2), (3, 3), (4, 2), (4, 3)}, found)

    def test_of_some_letters_alone(self):
        source = helping.chance(160)
        for again in range(100):
            n = source.randint(2, 4)
            some = source.randint(1, n)
            word = helping.word_by_chance(source, some, source.randint(1, 8))
            many = self.look(some, word)
            self.assertEqual(self.look(n, word), many, word)
            letters = source.choice(list(helping.exchanges(n)))
            self.assertEqual(self.look(n, helping.retold_by_the_book(letters, word)), many)

    def test_alphabets_change_nothing(self):
        source = helping.chance(161)
        for again in range(100):
            n = source.randint(1, 4)
            word = helping.word_by_chance(source, n, source.randint(0, 6))
            other = helping.retold_by_the_book(helping.alphabet_by_chance(source, n, 2), word)
            self.assertEqual(self.look(n, other), self.look(n, word), (word, other))
            self.assertEqual(self.look(n, helping.backwards(word)), self.look(n, word), word)


if __name__ == "__main__":
    unittest.main()
