"""The refusals, [0.5]."""

import unittest

from patchbough.errors import BoughError, Clash, NoDeed, NoFit, NoPart, NoPatch, NoRow, NoText

SEVEN = (NoPart, NoRow, NoFit, NoPatch, Clash, NoText, NoDeed)


class Standing(unittest.TestCase):
    def test_bough_error_stands_under_value_error(self):
        self.assertTrue(issubclass(BoughError, ValueError))
        self.assertIsNot(BoughError, ValueError)

    def test_each_stands_under_bough_error(self):
        for error in SEVEN:
            with self.subTest(error=error.__name__):
                self.assertTrue(issubclass(error, BoughError))
                self.assertTrue(issubclass(error, ValueError))
                self.assertFalse(issubclass(BoughError, error))

    def test_none_stands_under_another_one(self):
        for one in SEVEN:
            for other in SEVEN:
                if one is not other:
                    with self.subTest(one=one.__name__, other=other.__name__):
                        self.assertFalse(issubclass(one, other))

    def test_there_are_seven(self):
        self.assertEqual(len(set(SEVEN)), 7)

    def test_none_stands_under_another_error_of_python(self):
        for error in SEVEN:
            for other in (TypeError, LookupError, ArithmeticError, RuntimeError, UnicodeError):
                with self.subTest(error=error.__name__, other=other.__name__):
                    self.assertFalse(issubclass(error, other))


class Making(unittest.TestCase):
    def test_made_with_a_text(self):
        for error in (NoPart, NoDeed):
            for words in ("", "nothing stands here"):
                with self.subTest(error=error.__name__, words=words):
                    with self.assertRaises(error):
                        raise error(words)

    def test_made_with_a_place(self):
        for error in (NoRow, NoFit, NoPatch, NoText):
            for at in (0, 1, 40, 10 ** 30):
                with self.subTest(error=error.__name__, at=at):
                    with self.assertRaises(error) as caught:
                        raise error(at)
                    self.assertEqual(caught.exception.at, at)
                    self.assertIs(type(caught.exception.at), int)

    def test_clash_has_two_places(self):
        for at, other in ((0, 0), (0, 3), (3, 0), (1, 2)):
            with self.subTest(at=at, other=other):
                with self.assertRaises(Clash) as caught:
                    raise Clash(at, other)
                self.assertEqual(caught.exception.at, at)
                self.assertEqual(caught.exception.other, other)

    def test_two_errors_keep_fields_of_their_own(self):
        one = NoRow(1)
        other = NoRow(2)
        self.assertEqual((one.at, other.at), (1, 2))
        first = Clash(1, 2)
        second = Clash(3, 4)
        self.assertEqual((first.at, first.other, second.at, second.other), (1, 2, 3, 4))

    def test_each_is_taken_as_bough_error_and_as_value_error(self):
        made = [NoPart("x"), NoDeed("x"), NoRow(1), NoFit(1), NoPatch(1), NoText(1), Clash(1, 2)]
        for error in made:
            for kind in (BoughError, ValueError):
                with self.subTest(error=error, kind=kind.__name__):
                    with self.assertRaises(kind):
                        raise error


if __name__ == "__main__":
    unittest.main()
