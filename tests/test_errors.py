"""[0.4] and the interface of holdsets.errors."""

import unittest

from holdsets import errors
from holdsets.errors import NoArrow, NoHold, NoNumber, NoPlace, NoRow, NoText, NoWeb, Ringed, TooGreat, WebError

PLAIN = (NoPlace, NoHold, NoArrow, NoNumber, NoRow)
WITH_FIELDS = (
    (NoWeb, {"number": -1}),
    (NoWeb, {"number": 200}),
    (Ringed, {"ring": (0, 1, 2)}),
    (NoText, {"row": 0}),
    (TooGreat, {"many": 10 ** 40, "most": 5000}),
)


class ErrorsTest(unittest.TestCase):
    def test_web_error_stands_straight_under_value_error(self):
        self.assertEqual(WebError.__bases__, (ValueError,))

    def test_each_refusal_stands_straight_under_web_error(self):
        for kind in PLAIN + tuple(kind for kind, fields in WITH_FIELDS):
            with self.subTest(kind=kind.__name__):
                self.assertEqual(kind.__bases__, (WebError,))

    def test_there_are_just_these_classes(self):
        told = {"WebError", "NoPlace", "NoHold", "NoArrow", "NoNumber", "NoRow", "NoWeb", "Ringed", "NoText", "TooGreat"}
        self.assertEqual({name for name, value in vars(errors).items() if isinstance(value, type)}, told)

    def test_refusals_without_fields(self):
        for kind in PLAIN:
            with self.subTest(kind=kind.__name__):
                self.assertEqual(vars(kind()), {})
                with self.assertRaises(WebError):
                    raise kind()

    def test_fields_by_place_and_by_name(self):
        for kind, fields in WITH_FIELDS:
            with self.subTest(kind=kind.__name__):
                self.assertEqual(vars(kind(*fields.values())), fields)
                self.assertEqual(vars(kind(**fields)), fields)
                with self.assertRaises(WebError):
                    raise kind(*fields.values())

    def test_fields_are_each_object_s_own(self):
        first = NoWeb(3)
        second = NoWeb(4)
        self.assertEqual((first.number, second.number), (3, 4))


if __name__ == "__main__":
    unittest.main()
