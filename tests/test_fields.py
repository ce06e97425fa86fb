"""Fields [11] [12], and what is kept and told of lists [4]."""

import unittest

from halvedpictures.errors import NoField, NoNumber, NoPlace
from halvedpictures.fields import Field
from tests.helper import assert_refused, is_plain_whole, shown, wrong_things

GREAT = 10 ** 15 - 1


def filled(height, width):
    return [[10 * y + x for x in range(width)] for y in range(height)]


def are_right_rows(thing):
    """Point 2's words of a field, said once more."""
    if thing.__class__ is not list or not 1 <= len(thing) <= 64:
        return False
    if any(row.__class__ is not list or not 1 <= len(row) <= 64 for row in thing):
        return False
    numbers = [number for row in thing for number in row]
    alike = all(len(row) == len(thing[0]) for row in thing)
    return alike and len(numbers) <= 512 and all(is_plain_whole(one) and abs(one) <= GREAT for one in numbers)


class MadeTest(unittest.TestCase):
    def test_a_field_tells_what_it_was_made_of(self):
        field = Field([[1, -2, 3], [4, 5, 6]])
        self.assertEqual((field.height(), field.width()), (2, 3))
        self.assertEqual(field.rows(), [[1, -2, 3], [4, 5, 6]])
        self.assertEqual(field.flat(), [1, -2, 3, 4, 5, 6])
        self.assertEqual(field.places(), [(0, 0), (0, 1), (0, 2), (1, 0), (1, 1), (1, 2)])

    def test_every_size_is_made_or_refused(self):
        for height in range(67):
            for width in range(67):
                rows = filled(height, width)
                if 1 <= height <= 64 and 1 <= width <= 64 and height * width <= 512:
                    field = Field(rows)
                    self.assertEqual((field.height(), field.width()), (height, width))
                    self.assertEqual(field.rows(), rows)
                    self.assertEqual(len(field.places()), height * width)
                else:
                    assert_refused(self, NoField, {"found": rows}, Field, rows)

    def test_rows_of_unlike_lengths(self):
        for rows in ([[1], [1, 2]], [[1, 2], [1]], [[1, 2], [1, 2], []], [[], [1]], [[1, 2], [3, 4], [5, 6, 7]]):
            assert_refused(self, NoField, {"found": rows}, Field, rows)

    def test_numbers_of_fifteen_and_of_sixteen_figures(self):
        self.assertEqual(Field([[GREAT, -GREAT]]).rows(), [[GREAT, -GREAT]])
        for number in (GREAT + 1, -GREAT - 1, 10 ** 29, -(10 ** 29)):
            for rows in ([[number, 0]], [[0, number]], [[0], [number]]):
                assert_refused(self, NoField, {"found": rows}, Field, rows)

    def test_things_in_the_place_of_a_number_or_a_row(self):
        for thing in wrong_things():
            for rows in ([[1, thing]], [[1], [thing]], [thing, [1]], [[1], thing], (thing,), {0: thing}):
                if not are_right_rows(rows):
                    assert_refused(self, NoField, {"found": rows}, Field, rows)

    def test_things_in_the_place_of_the_rows(self):
        refused = 0
        for thing in wrong_things():
            if are_right_rows(thing):
                self.assertEqual(Field(thing).rows(), thing)
            else:
                assert_refused(self, NoField, {"found": thing}, Field, thing)
                refused += 1
        self.assertGreater(refused, 50)

    def test_only_lists_of_lists(self):
        for rows in (([1, 2], [3, 4]), [(1, 2), (3, 4)], [[1, 2], (3, 4)], ((1,),), {0: [1]}, "12", [[True]], [[False]]):
            assert_refused(self, NoField, {"found": rows}, Field, rows)


class PlaceTest(unittest.TestCase):
    def test_just_its_places_are_places(self):
        field = Field(filled(2, 3))
        for y in range(-2, 5):
            for x in range(-2, 5):
                self.assertIs(field.is_place((y, x)), 0 <= y < 2 and 0 <= x < 3, (y, x))

    def test_any_thing_has_an_answer(self):
        for height, width in ((1, 1), (2, 3), (64, 8)):
            field = Field(filled(height, width))
            for thing in wrong_things():
                before = shown(thing)
                self.assertIs(field.is_place(thing), thing.__class__ is tuple and len(thing) == 2 and all(
                    is_plain_whole(one) for one in thing) and thing in field.places(), before)
                self.assertEqual(shown(thing), before)

    def test_lists_and_truths_and_longer_tuples_are_no_places(self):
        field = Field(filled(2, 2))
        for thing in ([0, 0], (0,), (0, 0, 0), (True, 0), (0, True), (False, 1), ("0", 0), (0, None), "00", {0: 0}):
            self.assertIs(field.is_place(thing), False)

    def test_numbers_at_places(self):
        field = Field([[1, -2, 3], [4, 5, 6]])
        self.assertEqual([field.at(place) for place in field.places()], field.flat())
        self.assertEqual(field.at((1, 0)), 4)
        self.assertEqual(field.at((0, 2)), 3)

    def test_no_place_is_refused(self):
        field = Field(filled(3, 2))
        for thing in wrong_things() + [(3, 0), (0, 2), (2, -1), (-1, 1), (10 ** 29, 0)]:
            if not field.is_place(thing):
                assert_refused(self, NoPlace, {"found": thing}, field.at, thing)
                assert_refused(self, NoPlace, {"found": thing}, field.with_number, thing, 5)


class WithNumberTest(unittest.TestCase):
    def test_another_field_alike_but_there(self):
        field = Field(filled(3, 4))
        for y, x in field.places():
            other = field.with_number((y, x), -77)
            due = filled(3, 4)
            due[y][x] = -77
            self.assertEqual(other.rows(), due)
            self.assertIsInstance(other, Field)
            self.assertEqual(field.rows(), filled(3, 4))

    def test_the_same_number_makes_a_field_of_the_same_rows(self):
        field = Field([[1, 2]])
        self.assertIs(field.with_number((0, 1), 2).same(field), True)

    def test_numbers_of_fifteen_and_of_sixteen_figures(self):
        field = Field([[1, 2]])
        for number in (GREAT, -GREAT, 0):
            self.assertEqual(field.with_number((0, 1), number).rows(), [[1, number]])
        for number in (GREAT + 1, -GREAT - 1):
            assert_refused(self, NoNumber, {"found": number}, field.with_number, (0, 1), number)

    def test_no_number_is_refused_behind_the_place(self):
        field = Field([[1, 2]])
        for thing in wrong_things():
            if is_plain_whole(thing) and abs(thing) <= GREAT:
                continue
            assert_refused(self, NoNumber, {"found": thing}, field.with_number, (0, 0), thing)
            wrong = (1, 0)
            assert_refused(self, NoPlace, {"found": wrong}, field.with_number, wrong, thing)
            self.assertEqual(field.rows(), [[1, 2]])


class SameTest(unittest.TestCase):
    def test_fields_with_the_same_rows(self):
        field = Field([[1, 2], [3, 4]])
        self.assertIs(field.same(field), True)
        self.assertIs(field.same(Field([[1, 2], [3, 4]])), True)
        for rows in ([[1, 2], [3, 5]], [[1, 2, 3, 4]], [[1], [2], [3], [4]], [[1, 2]], [[1, 2], [3, 4], [5, 6]],
                     [[-1, 2], [3, 4]]):
            self.assertIs(field.same(Field(rows)), False)

    def test_any_thing_has_an_answer(self):
        field = Field([[1, 2], [3, 4]])
        for thing in wrong_things():
            before = shown(thing)
            self.assertIs(field.same(thing), isinstance(thing, Field) and thing.rows() == [[1, 2], [3, 4]], before)
            self.assertEqual(shown(thing), before)
        self.assertIs(field.same([[1, 2], [3, 4]]), False)


class KeptAndToldTest(unittest.TestCase):
    def test_rows_handed_in_and_changed_change_nothing(self):
        rows = [[1, 2], [3, 4]]
        field = Field(rows)
        rows[0][0] = 9
        rows[1].append(7)
        rows.append([5, 6])
        self.assertEqual(field.rows(), [[1, 2], [3, 4]])
        self.assertEqual((field.height(), field.width()), (2, 2))

    def test_one_list_handed_in_as_two_rows(self):
        row = [1, 2]
        field = Field([row, row])
        self.assertEqual(field.with_number((0, 0), 5).rows(), [[5, 2], [1, 2]])
        self.assertEqual(row, [1, 2])

    def test_lists_told_are_new_and_the_askers_own(self):
        field = Field([[1, 2], [3, 4]])
        told = field.rows()
        told[0][0] = 9
        told[1] = []
        told.append([])
        field.flat().clear()
        field.places().clear()
        self.assertEqual(field.rows(), [[1, 2], [3, 4]])
        self.assertEqual(field.flat(), [1, 2, 3, 4])
        self.assertEqual(field.places(), [(0, 0), (0, 1), (1, 0), (1, 1)])
        self.assertIsNot(field.rows(), field.rows())
        self.assertIsNot(field.rows()[0], field.rows()[0])
        self.assertIsNot(field.flat(), field.flat())
        self.assertIsNot(field.places(), field.places())

    def test_two_fields_of_the_same_list_have_nothing_in_common(self):
        rows = [[1, 2]]
        one, other = Field(rows), Field(rows)
        one.rows()[0][0] = 5
        self.assertEqual(other.rows(), [[1, 2]])
        self.assertIs(one.same(other), True)

    def test_a_refusal_has_the_very_list(self):
        rows = [[1, "2"]]
        error = assert_refused(self, NoField, {"found": rows}, Field, rows)
        rows.append(3)
        self.assertEqual(error.found, [[1, "2"], 3])


if __name__ == "__main__":
    unittest.main()
