import unittest

from newletters.letters import contrary, letters_of

ALL = ("a", "A", "b", "B", "c", "C", "d", "D")


class LettersOf(unittest.TestCase):
    def test_each_n_in_order(self):
        self.assertEqual(letters_of(1), ("a", "A"))
        self.assertEqual(letters_of(2), ("a", "A", "b", "B"))
        self.assertEqual(letters_of(3), ("a", "A", "b", "B", "c", "C"))
        self.assertEqual(letters_of(4), ALL)

    def test_is_a_tuple(self):
        for n in range(1, 5):
            self.assertIs(type(letters_of(n)), tuple)

    def test_asked_again_behind_other_questions(self):
        first = [letters_of(n) for n in (3, 1, 4, 2)]
        self.assertEqual([letters_of(n) for n in (3, 1, 4, 2)], first)


class Contrary(unittest.TestCase):
    def test_of_each_letter_and_each_contrary(self):
        told = [contrary(letter) for letter in ALL]
        self.assertEqual(told, ["A", "a", "B", "b", "C", "c", "D", "d"])

    def test_twice_is_the_letter_again(self):
        for letter in ALL:
            self.assertEqual(contrary(contrary(letter)), letter)


if __name__ == "__main__":
    unittest.main()
