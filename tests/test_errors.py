import unittest

from piecebooks import errors

NAMES = ["NoSource", "NoBook", "NoPiece", "NoLetters", "NoWord", "NoSize", "NoText", "NoStep"]


class Errors(unittest.TestCase):
    def test_piece_error_stands_right_under_value_error(self):
        self.assertEqual(errors.PieceError.__bases__, (ValueError,))

    def test_all_eight_stand_under_piece_error(self):
        for name in NAMES:
            with self.subTest(name=name):
                self.assertTrue(issubclass(getattr(errors, name), errors.PieceError))
                self.assertIsNot(getattr(errors, name), errors.PieceError)

    def test_none_stands_under_another(self):
        for one in NAMES:
            for other in NAMES:
                if one != other:
                    with self.subTest(one=one, other=other):
                        self.assertFalse(issubclass(getattr(errors, one), getattr(errors, other)))

    def test_each_is_taken_as_any_refusal_and_as_value_error(self):
        for name in NAMES:
            for above in (errors.PieceError, ValueError):
                with self.subTest(name=name, above=above.__name__):
                    with self.assertRaises(above):
                        raise getattr(errors, name)("words")


if __name__ == "__main__":
    unittest.main()
