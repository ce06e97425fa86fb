"""The refusals [5]."""

import unittest

from halvedpictures import errors
from halvedpictures.errors import HalvedError
from tests.helper import wrong_things

FIELDS = {
    "NoField": ["found"], "NoPlace": ["found"], "NoNumber": ["found"], "NoText": ["found"], "NoRow": ["found"],
    "NoHalves": ["sums", "differences"], "NoRule": ["found"], "NoSize": ["one", "other"], "NoWay": ["found"],
    "NoStep": ["found"], "Unlike": ["one", "other"], "TooGreat": ["place"], "NoMany": ["found"],
    "TooMany": ["found"], "NoPlaces": ["found"], "NoSquares": ["found"], "NoDeed": ["found"], "NoHead": ["found"],
    "BadSign": ["where"], "NoLine": ["found"],
}


class ErrorsTest(unittest.TestCase):
    def test_any_refusal_is_a_value_error_made_of_a_text(self):
        self.assertEqual(HalvedError.__bases__, (ValueError,))
        self.assertEqual(str(HalvedError("some words")), "some words")

    def test_there_are_twenty_classes_and_no_more(self):
        found = [name for name, thing in vars(errors).items() if isinstance(thing, type)]
        self.assertEqual(sorted(found), sorted(["HalvedError"] + list(FIELDS)))
        self.assertEqual(len(FIELDS), 20)

    def test_each_class_stands_straight_under_halved_error(self):
        for name in FIELDS:
            with self.subTest(name):
                self.assertEqual(getattr(errors, name).__bases__, (HalvedError,))

    def test_each_is_made_of_its_fields_in_order_whatever_they_are(self):
        for name, fields in FIELDS.items():
            for thing in wrong_things():
                things = [thing, ["another"]][:len(fields)]
                error = getattr(errors, name)(*things)
                self.assertEqual(list(vars(error)), fields)
                for field, value in zip(fields, things):
                    self.assertIs(getattr(error, field), value)

    def test_each_has_words_of_its_own(self):
        words = {str(getattr(errors, name)(*fields)) for name, fields in FIELDS.items()}
        self.assertEqual(len(words), 20)

    def test_two_refusals_of_one_class_have_nothing_in_common(self):
        one, other = errors.NoHalves([1], [2]), errors.NoHalves([3], [4])
        self.assertEqual((one.sums, one.differences, other.sums, other.differences), ([1], [2], [3], [4]))

    def test_a_refusal_is_taken_as_its_own_class_and_as_those_above(self):
        for above in (errors.NoWay, HalvedError, ValueError):
            with self.assertRaises(above):
                raise errors.NoWay("x")


if __name__ == "__main__":
    unittest.main()
