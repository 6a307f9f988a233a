import unittest

from stampsheet import errors
from stampsheet.errors import NoCell, NoNumber, NoPiece, NoSheet, NoText, NoWants, SheetError

REFUSALS = [NoSheet, NoCell, NoPiece, NoNumber, NoWants, NoText]


class Errors(unittest.TestCase):
    def test_names(self):
        names = ["NoSheet", "NoCell", "NoPiece", "NoNumber", "NoWants", "NoText"]
        self.assertEqual([getattr(errors, name) for name in names], REFUSALS)
        self.assertEqual([refusal.__name__ for refusal in REFUSALS], names)

    def test_sheet_error_is_a_value_error_and_no_refusal_itself(self):
        self.assertTrue(issubclass(SheetError, ValueError))
        for refusal in REFUSALS:
            self.assertFalse(issubclass(SheetError, refusal))

    def test_sheet_error_takes_each(self):
        for refusal in REFUSALS:
            with self.subTest(refusal=refusal.__name__):
                with self.assertRaises(SheetError):
                    raise refusal("words")
                with self.assertRaises(ValueError):
                    raise refusal("words")

    def test_none_is_under_another(self):
        for one in REFUSALS:
            for other in REFUSALS:
                with self.subTest(one=one.__name__, other=other.__name__):
                    self.assertEqual(issubclass(one, other), one is other)


if __name__ == "__main__":
    unittest.main()
