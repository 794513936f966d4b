import unittest

from newletters import errors

WITH_FIELD = (
    (errors.NoWord, "at", (None, 0, 7)),
    (errors.NoText, "row", (0, 4)),
    (errors.NoAlphabet, "web", (((None,),), ((0, 1), (None, None)))),
    (errors.NoChange, "word", ("letter", "side")),
    (errors.NoPaper, "at", (0, 3)),
)
WITHOUT_FIELD = (errors.TooMany, errors.NoRow)
REFUSALS = tuple(kind for kind, name, values in WITH_FIELD) + WITHOUT_FIELD


class Errors(unittest.TestCase):
    def test_the_base_stands_right_under_value_error(self):
        self.assertEqual(errors.LetterError.__bases__, (ValueError,))

    def test_each_refusal_stands_right_under_the_base(self):
        for kind in REFUSALS:
            self.assertEqual(kind.__bases__, (errors.LetterError,), kind)

    def test_none_stands_under_another(self):
        for one in REFUSALS:
            for other in REFUSALS:
                self.assertEqual(issubclass(one, other), one is other, (one, other))

    def test_fields_are_kept(self):
        for kind, name, values in WITH_FIELD:
            for value in values:
                made = kind(value)
                self.assertIs(getattr(made, name), value)
                self.assertEqual(vars(made), {name: value})

    def test_two_of_one_class_keep_their_own(self):
        one = errors.NoWord(1)
        other = errors.NoWord(2)
        self.assertEqual((one.at, other.at), (1, 2))

    def test_those_without_fields(self):
        for kind in WITHOUT_FIELD:
            self.assertEqual(vars(kind()), {})

    def test_made_with_just_what_stands_in_the_brackets(self):
        for kind, name, values in WITH_FIELD:
            self.assertRaises(TypeError, kind)
            self.assertRaises(TypeError, kind, values[0], values[0])
        for kind in WITHOUT_FIELD:
            self.assertRaises(TypeError, kind, 1)

    def test_each_is_taken_as_any_refusal(self):
        for kind, name, values in WITH_FIELD:
            with self.assertRaises(errors.LetterError) as caught:
                raise kind(values[0])
            self.assertIs(getattr(caught.exception, name), values[0])
        for kind in WITHOUT_FIELD:
            with self.assertRaises(errors.LetterError):
                raise kind()


if __name__ == "__main__":
    unittest.main()
