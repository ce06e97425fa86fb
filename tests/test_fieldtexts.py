"""Fields as texts [13] [14]."""

import itertools
import re
import unittest

from halvedpictures.errors import NoField, NoText
from halvedpictures.fields import Field
from halvedpictures.fieldtexts import field_text, read_field
from tests.helper import assert_refused, shown, wrong_things

GREAT = 10 ** 15 - 1
NUMBER = r"(0|-?[1-9][0-9]{0,14})"
WRITTEN = re.compile(rf"{NUMBER}( {NUMBER})*(; {NUMBER}( {NUMBER})*)*")


def is_written(text):
    """Whether a field is written by a text, told in another way than the package tells it."""
    if not WRITTEN.fullmatch(text):
        return False
    many = [row.count(" ") + 1 for row in text.split("; ")]
    return len(set(many)) == 1 and many[0] <= 64 and len(many) <= 64 and sum(many) <= 512


class WrittenTest(unittest.TestCase):
    def test_ordinary_fields(self):
        self.assertEqual(field_text(Field([[1, -20], [0, 3]])), "1 -20; 0 3")
        self.assertEqual(field_text(Field([[0]])), "0")
        self.assertEqual(field_text(Field([[1], [2], [3]])), "1; 2; 3")
        self.assertEqual(field_text(Field([[GREAT, -GREAT]])), "999999999999999 -999999999999999")

    def test_what_is_no_field_is_refused(self):
        for thing in wrong_things():
            if isinstance(thing, Field):
                self.assertEqual(field_text(thing), field_text(Field(thing.rows())))
            else:
                assert_refused(self, NoField, {"found": thing}, field_text, thing)


class ReadTest(unittest.TestCase):
    def test_ordinary_texts(self):
        self.assertEqual(read_field("1 -20; 0 3").rows(), [[1, -20], [0, 3]])
        self.assertEqual(read_field("0").rows(), [[0]])
        self.assertEqual(read_field("5; -6").rows(), [[5], [-6]])
        self.assertIsInstance(read_field("5; -6"), Field)

    def test_figures_up_to_fifteen(self):
        for many in range(1, 15):
            self.assertEqual(read_field("1" * many).flat(), [int("1" * many)])
        self.assertEqual(read_field("9" * 15 + " -" + "9" * 15).flat(), [GREAT, -GREAT])
        for text in ("1" * 16, "-" + "1" * 16, "1 " + "9" * 16, "1; " + "9" * 30, "0" * 15, "9" * 15000):
            assert_refused(self, NoText, {"found": text}, read_field, text)

    def test_numbers_that_are_not_plain(self):
        for number in ("-0", "00", "01", "-01", "+1", "+0", "--1", "-", "+", "1-", "1.0", "1e3", "1_0", "0x1", "a",
                       "1,", "- 1", "\n", "1\n", "\n1", "~", "0 -0"):
            for text in (number, f"{number} 2", f"2 {number}", f"2; {number}", f"{number}; 2"):
                if not is_written(text):
                    assert_refused(self, NoText, {"found": text}, read_field, text)
        for text in ("-0", "0 -0", "00", "+1"):
            assert_refused(self, NoText, {"found": text}, read_field, text)

    def test_blanks_and_semicolons_too_many_or_too_few(self):
        for text in ("", " ", ";", "; ", " 1", "1 ", "1  2", "1 2 ", "1;2", "1;  2", "1 ; 2", "1; 2;", "1; 2; ",
                     "; 1", ";1", "1;; 2", "1; ; 2", "1;\n2", "1\n2", "1; 2 ", " 1; 2"):
            assert_refused(self, NoText, {"found": text}, read_field, text)

    def test_rows_of_unlike_lengths_and_too_many_numbers(self):
        for text in ("1 2; 3", "1; 2 3", "1 2; 3 4; 5"):
            assert_refused(self, NoText, {"found": text}, read_field, text)
        for height, width in ((64, 8), (8, 64), (1, 64), (64, 1), (22, 23)):
            rows = [[0] * width for line in range(height)]
            text = "; ".join(" ".join("0" * width) for line in range(height))
            self.assertEqual(read_field(text).rows(), rows)
        for height, width in ((65, 1), (1, 65), (64, 9), (9, 64), (27, 19), (23, 23)):
            text = "; ".join(" ".join("0" * width) for line in range(height))
            assert_refused(self, NoText, {"found": text}, read_field, text)

    def test_any_thing_that_is_no_text_of_a_field(self):
        for thing in wrong_things():
            if isinstance(thing, str) and is_written(thing):
                self.assertEqual(field_text(read_field(thing)), thing)
            else:
                assert_refused(self, NoText, {"found": thing}, read_field, thing)

    def test_all_short_texts_of_few_signs(self):
        read = 0
        for many in range(6):
            for signs in itertools.product("01-+; ", repeat=many):
                text = "".join(signs)
                if is_written(text):
                    self.assertEqual(field_text(read_field(text)), text)
                    read += 1
                else:
                    with self.assertRaises(NoText) as caught:
                        read_field(text)
                    self.assertIs(caught.exception.found, text)
        self.assertGreater(read, 50)


class BothWaysTest(unittest.TestCase):
    def test_what_is_written_is_read_again(self):
        for height, width in ((1, 1), (1, 64), (64, 1), (8, 64), (3, 5)):
            for first in (0, -GREAT, GREAT - 1000, -7):
                rows = [[first + y * width + x for x in range(width)] for y in range(height)]
                field = Field(rows)
                text = field_text(field)
                self.assertTrue(is_written(text))
                self.assertEqual(read_field(text).rows(), rows)
                self.assertEqual(field_text(field), text)
                self.assertEqual(field.rows(), rows)

    def test_reading_again_tells_another_object(self):
        one, other = read_field("1 2"), read_field("1 2")
        self.assertIs(one.same(other), True)
        self.assertIsNot(one.rows(), other.rows())
        self.assertEqual(shown(one), shown(other))


if __name__ == "__main__":
    unittest.main()
