import itertools
import unittest

import helping
from newletters.errors import NoWord
from newletters.words import joined, laid_out, look_word, turned_back, words_in_order


class LookWord(unittest.TestCase):
    def refused_at(self, n, thing):
        return helping.refusal_of(self, NoWord, look_word, n, thing).at

    def test_plain_words_are_let_by(self):
        for n in range(1, 5):
            for word in helping.plain_words(n, 3):
                self.assertIs(look_word(n, word), True)

    def test_the_word_without_letters(self):
        for n in range(1, 5):
            self.assertIs(look_word(n, ""), True)

    def test_words_of_forty_letters(self):
        source = helping.chance(1)
        for n in range(1, 5):
            self.assertIs(look_word(n, helping.word_by_chance(source, n, 40)), True)

    def test_no_text(self):
        things = (0, 1, -3, None, True, False, [], ["a"], (), ("a", "b"), {}, {"a": 1}, b"ab", 1.5)
        for n in range(1, 5):
            for thing in things:
                self.assertIsNone(self.refused_at(n, thing), thing)

    def test_a_letter_of_a_greater_n(self):
        self.assertEqual(self.refused_at(1, "b"), 0)
        self.assertEqual(self.refused_at(1, "aaB"), 2)
        self.assertEqual(self.refused_at(2, "abc"), 2)
        self.assertEqual(self.refused_at(2, "abCa"), 2)
        self.assertEqual(self.refused_at(3, "cbD"), 2)
        self.assertEqual(self.refused_at(3, "dcb"), 0)

    def test_other_signs(self):
        for sign in " \n\t.eE1_~-=\u00e4":
            for n in range(1, 5):
                self.assertEqual(self.refused_at(n, sign), 0, sign)
                self.assertEqual(self.refused_at(n, "aa" + sign), 2, sign)
                self.assertEqual(self.refused_at(n, "a" + sign + "A"), 1, sign)

    def test_the_contrary_of_the_one_just_ahead(self):
        self.assertEqual(self.refused_at(1, "aA"), 1)
        self.assertEqual(self.refused_at(1, "Aa"), 1)
        self.assertEqual(self.refused_at(2, "abbBa"), 3)
        self.assertEqual(self.refused_at(4, "abcdDCBA"), 4)

    def test_of_both_kinds_the_first(self):
        self.assertEqual(self.refused_at(2, "aAc"), 1)
        self.assertEqual(self.refused_at(2, "caA"), 0)
        self.assertEqual(self.refused_at(2, "abBxy"), 2)
        self.assertEqual(self.refused_at(2, "ab xX bB"), 2)
        self.assertEqual(self.refused_at(2, "acC"), 1)
        self.assertEqual(self.refused_at(1, "abB"), 1)

    def test_a_contrary_further_off_is_let_by(self):
        self.assertIs(look_word(2, "abA"), True)
        self.assertIs(look_word(2, "abAB"), True)

    def test_at_is_a_whole_number(self):
        for thing in ("x", "aA"):
            self.assertIs(type(self.refused_at(2, thing)), int)

    def test_let_by_behind_a_refusal(self):
        self.assertEqual(self.refused_at(2, "abB"), 2)
        self.assertIs(look_word(2, "ab"), True)
        self.assertIsNone(self.refused_at(2, None))
        self.assertIs(look_word(2, "ab"), True)
        self.assertEqual(self.refused_at(2, "abB"), 2)

    def test_all_short_texts(self):
        signs = "aAbBc."
        for size in range(5):
            for chosen in itertools.product(signs, repeat=size):
                text = "".join(chosen)
                faults = [k for k in range(size) if text[k] not in "aAbB" or k and text[k] == text[k - 1].swapcase()]
                if faults:
                    self.assertEqual(self.refused_at(2, text), faults[0], text)
                else:
                    self.assertIs(look_word(2, text), True)


class LaidOut(unittest.TestCase):
    def test_the_text_without_signs(self):
        self.assertEqual(laid_out(""), "")

    def test_plain_texts_stay(self):
        for word in helping.plain_words(4, 3):
            self.assertEqual(laid_out(word), word)

    def test_two_taken_out(self):
        self.assertEqual(laid_out("aAb"), "b")
        self.assertEqual(laid_out("bAa"), "b")
        self.assertEqual(laid_out("cdDc"), "cc")

    def test_two_others_come_together(self):
        self.assertEqual(laid_out("abBAc"), "c")
        self.assertEqual(laid_out("dabcCBa"), "daa")
        self.assertEqual(laid_out("aBbAAb"), "Ab")

    def test_that_come_to_nothing(self):
        for text in ("aA", "Aa", "abBA", "aAaA", "abcdDCBA", "aAbBcCdD", "abBcCA"):
            self.assertEqual(laid_out(text), "", text)

    def test_an_odd_one_is_left(self):
        self.assertEqual(laid_out("aAa"), "a")
        self.assertEqual(laid_out("AaA"), "A")

    def test_texts_of_forty_letters(self):
        self.assertEqual(laid_out("abcd" * 5 + "DCBA" * 5), "")
        self.assertEqual(laid_out("a" * 30 + "A" * 10), "a" * 20)
        source = helping.chance(2)
        for n in range(1, 5):
            for again in range(60):
                text = helping.text_by_chance(source, n, 40)
                self.assertEqual(laid_out(text), helping.taken_out(text), text)

    def test_all_short_texts(self):
        for size in range(7):
            for chosen in itertools.product("aAbB", repeat=size):
                text = "".join(chosen)
                self.assertEqual(laid_out(text), helping.taken_out(text), text)

    def test_long_texts(self):
        self.assertEqual(laid_out("ab" * 50000 + "BA" * 50000), "")


class TurnedBack(unittest.TestCase):
    def test_some(self):
        self.assertEqual(turned_back(""), "")
        self.assertEqual(turned_back("a"), "A")
        self.assertEqual(turned_back("abC"), "cBA")
        self.assertEqual(turned_back("aabD"), "dBAA")

    def test_twice_is_the_word_again(self):
        for word in helping.plain_words(3, 4):
            self.assertEqual(turned_back(turned_back(word)), word)

    def test_all_short_words(self):
        for word in helping.plain_words(4, 3):
            self.assertEqual(turned_back(word), helping.backwards(word))


class Joined(unittest.TestCase):
    def test_none_fall_away(self):
        self.assertEqual(joined("ab", "ab"), "abab")
        self.assertEqual(joined("a", "a"), "aa")

    def test_some_fall_away(self):
        self.assertEqual(joined("ab", "Ba"), "aa")
        self.assertEqual(joined("abc", "CBd"), "ad")

    def test_all_fall_away(self):
        self.assertEqual(joined("ab", "BA"), "")
        self.assertEqual(joined("ab", "BAc"), "c")
        self.assertEqual(joined("cab", "BA"), "c")

    def test_beside_the_word_without_letters(self):
        self.assertEqual(joined("", ""), "")
        self.assertEqual(joined("aB", ""), "aB")
        self.assertEqual(joined("", "aB"), "aB")

    def test_with_itself_turned_back(self):
        for word in helping.plain_words(3, 4):
            self.assertEqual(joined(word, turned_back(word)), "")
            self.assertEqual(joined(turned_back(word), word), "")

    def test_all_pairs_of_short_words(self):
        words = list(helping.plain_words(2, 3))
        for one, other in itertools.product(words, repeat=2):
            self.assertEqual(joined(one, other), helping.taken_out(one + other))

    def test_three_either_way_about(self):
        source = helping.chance(3)
        for again in range(300):
            n = source.randint(1, 4)
            one, other, third = [helping.word_by_chance(source, n, source.randint(0, 12)) for k in range(3)]
            self.assertEqual(joined(joined(one, other), third), joined(one, joined(other, third)))

    def test_turned_back_the_last_comes_first(self):
        source = helping.chance(4)
        for again in range(200):
            one, other = [helping.word_by_chance(source, 3, source.randint(0, 8)) for k in range(2)]
            self.assertEqual(turned_back(joined(one, other)), joined(turned_back(other), turned_back(one)))


class WordsInOrder(unittest.TestCase):
    def test_the_empty_list(self):
        self.assertEqual(words_in_order([]), [])

    def test_shorter_ahead(self):
        self.assertEqual(words_in_order(["aaa", "D", "bb", ""]), ["", "D", "bb", "aaa"])

    def test_the_order_of_letters(self):
        self.assertEqual(words_in_order(list("DdCcBbAa")), list("aAbBcCdD"))
        self.assertEqual(words_in_order(list("ABCDabcd")), list("aAbBcCdD"))

    def test_of_one_length_by_the_first_unlike_letters(self):
        self.assertEqual(words_in_order(["ba", "AB", "ab", "aB", "Ab"]), ["ab", "aB", "Ab", "AB", "ba"])
        self.assertEqual(words_in_order(["abD", "aba", "aad", "aaC"]), ["aaC", "aad", "aba", "abD"])

    def test_words_that_stand_there_twice(self):
        self.assertEqual(words_in_order(["b", "a", "b", "", "a", ""]), ["", "", "a", "a", "b", "b"])

    def test_the_list_handed_in_stays(self):
        words = ["b", "A", "ab", "a"]
        told = words_in_order(words)
        self.assertEqual(words, ["b", "A", "ab", "a"])
        told.append("c")
        told[0] = "D"
        self.assertEqual(words, ["b", "A", "ab", "a"])
        self.assertEqual(words_in_order(words), ["a", "A", "b", "ab"])

    def test_the_list_told_is_a_new_one(self):
        words = ["a", "A"]
        told = words_in_order(words)
        self.assertIs(type(told), list)
        self.assertIsNot(told, words)
        self.assertIsNot(words_in_order(words), told)
        words.append("b")
        self.assertEqual(told, ["a", "A"])
        empty = []
        self.assertIsNot(words_in_order(empty), empty)

    def test_all_short_words(self):
        words = list(helping.plain_words(4, 3))
        shuffled = list(words)
        helping.chance(5).shuffle(shuffled)
        self.assertEqual(words_in_order(shuffled), words)


if __name__ == "__main__":
    unittest.main()
