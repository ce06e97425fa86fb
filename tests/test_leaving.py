"""Small numbers left out [63], and fields apart [66]."""

import random
import unittest

from halvedpictures.errors import NoField, NoNumber, TooGreat, Unlike
from halvedpictures.fields import Field
from halvedpictures.leaving import apart, left_out
from halvedpictures.lifted import words
from halvedpictures.plans import Plan
from tests.helper import assert_refused, is_plain_whole, shown, some_plans, some_rows, wrong_things

MOST = 10 ** 9


class LeftOutTest(unittest.TestCase):
    def test_by_hand(self):
        for word in words():
            plan, numbers = Plan(2, 3, word, "b"), Field([[1, -1, 4], [-5, 5, -6]])
            for bound, due in ((0, [[1, -1, 4], [-5, 5, -6]]), (3, [[1, -1, 4], [-5, 5, -6]]),
                               (4, [[1, -1, 0], [-5, 5, -6]]), (5, [[1, -1, 0], [0, 0, -6]]),
                               (6, [[1, -1, 0], [0, 0, 0]]), (MOST, [[1, -1, 0], [0, 0, 0]])):
                told = left_out(plan, numbers, bound)
                self.assertIsInstance(told, Field)
                self.assertEqual(told.rows(), due, bound)

    def test_the_corner_behind_all_steps_stays(self):
        numbers = Field([[1] * 5] * 5)
        self.assertEqual(left_out(Plan(5, 5, "sum", "rb"), numbers, 1).rows(),
                         [[1, 1, 0, 0, 0]] * 3 + [[0] * 5] * 2)
        self.assertEqual(left_out(Plan(5, 5, "sum", "p"), numbers, 1).rows(), [[1] * 5] * 3 + [[0] * 5] * 2)
        self.assertEqual(left_out(Plan(5, 5, "sum", "bbb"), numbers, 1).rows(), [[1, 0, 0, 0, 0]] + [[0] * 5] * 4)

    def test_without_steps_all_stay(self):
        numbers = Field([[1, 0], [-1, MOST]])
        for bound in (0, 1, MOST):
            self.assertEqual(left_out(Plan(2, 2, "lean", ""), numbers, bound).rows(), numbers.rows())

    def test_numbers_and_bounds_at_the_bounds(self):
        plan, numbers = Plan(1, 4, "half", "r"), Field([[MOST, -MOST, MOST, -MOST]])
        self.assertEqual(left_out(plan, numbers, MOST).rows(), [[MOST, -MOST, 0, 0]])
        self.assertEqual(left_out(plan, numbers, MOST - 1).rows(), [[MOST, -MOST, MOST, -MOST]])

    def test_many_by_the_parts(self):
        chance = random.Random(80)
        for plan in some_plans(chance, 100, 12):
            numbers = Field(some_rows(chance, plan.height(), plan.width(), 9))
            bound = chance.randint(0, 9)
            told = left_out(plan, numbers, bound)
            step, word, top, left, height, width = plan.parts()[0]
            for y, x in numbers.places():
                number = numbers.at((y, x))
                fine = y >= height or x >= width
                self.assertEqual(told.at((y, x)), 0 if fine and -bound <= number <= bound else number)


class RefusedTest(unittest.TestCase):
    def test_numbers_ahead_of_bounds(self):
        plan = Plan(2, 2, "guess", "b")
        for bound in (0, MOST + 1, None, "1"):
            for thing in wrong_things():
                if not isinstance(thing, Field):
                    assert_refused(self, NoField, {"found": thing}, left_out, plan, thing, bound)
            for rows in ([[1]], [[1, 2]], [[1, 2, 3]] * 2, [[10 ** 14] * 2] * 3):
                fields = {"one": (2, 2), "other": (len(rows), len(rows[0]))}
                assert_refused(self, Unlike, fields, left_out, plan, Field(rows), bound)
            for place in ((0, 0), (0, 1), (1, 0), (1, 1)):
                for number in (MOST + 1, -MOST - 1):
                    numbers = Field([[MOST, 1], [-MOST, 1]]).with_number(place, number)
                    assert_refused(self, TooGreat, {"place": place}, left_out, plan, numbers, bound)
                    assert_refused(self, TooGreat, {"place": place}, left_out, plan,
                                   numbers.with_number((1, 1), -number), bound)

    def test_bounds(self):
        plan, numbers = Plan(2, 2, "guess", "b"), Field([[1, 2], [3, 4]])
        for thing in wrong_things() + [MOST, MOST + 1]:
            if is_plain_whole(thing) and 0 <= thing <= MOST:
                self.assertIsInstance(left_out(plan, numbers, thing), Field)
            else:
                assert_refused(self, NoNumber, {"found": thing}, left_out, plan, numbers, thing)


class ApartTest(unittest.TestCase):
    def test_by_hand(self):
        for one, other, due in (([[1, 2], [3, 4]], [[1, 2], [3, 4]], 0), ([[1, 2], [3, 4]], [[1, 5], [2, 4]], 3),
                                ([[0]], [[-7]], 7), ([[-7]], [[0]], 7), ([[5, 0]], [[0, 4]], 5),
                                ([[0], [4]], [[3], [0]], 4)):
            self.assertEqual(apart(Field(one), Field(other)), due)

    def test_numbers_of_any_size(self):
        great = 10 ** 15 - 1
        self.assertEqual(apart(Field([[great, 0]]), Field([[-great, 1]])), 2 * great)

    def test_the_greatest_of_many(self):
        chance = random.Random(81)
        for time in range(100):
            height, width = chance.randint(1, 9), chance.randint(1, 9)
            one, other = some_rows(chance, height, width, 50), some_rows(chance, height, width, 50)
            due = sorted(abs(one[y][x] - other[y][x]) for y in range(height) for x in range(width))[-1]
            self.assertEqual(apart(Field(one), Field(other)), due)
            self.assertEqual(apart(Field(other), Field(one)), due)

    def test_the_one_is_refused_ahead_of_the_other(self):
        right = Field([[1, 2]])
        for thing in wrong_things():
            if isinstance(thing, Field):
                continue
            for other in (right, None, Field([[1]]), thing):
                assert_refused(self, NoField, {"found": thing}, apart, thing, other)
            assert_refused(self, NoField, {"found": thing}, apart, right, thing)

    def test_unlike_sizes(self):
        for one, other in (((1, 2), (2, 1)), ((1, 1), (1, 2)), ((3, 2), (2, 2)), ((2, 6), (3, 4))):
            fields = [Field([[1] * width] * height) for height, width in (one, other)]
            assert_refused(self, Unlike, {"one": one, "other": other}, apart, fields[0], fields[1])
            assert_refused(self, Unlike, {"one": other, "other": one}, apart, fields[1], fields[0])


class KeptTest(unittest.TestCase):
    def test_what_is_handed_in_stays(self):
        rows = [[1, 2], [3, 4]]
        plan, numbers = Plan(2, 2, "sum", "b"), Field(rows)
        rows[1][1] = 50
        before, told = shown([plan, numbers]), left_out(plan, numbers, 3)
        self.assertEqual(told.rows(), [[1, 0], [0, 4]])
        told.rows()[0].clear()
        self.assertTrue(told.same(left_out(Plan(2, 2, "sum", "b"), Field([[1, 2], [3, 4]]), 3)))
        self.assertEqual(apart(numbers, told), 3)
        self.assertEqual(shown([plan, numbers]), before)


if __name__ == "__main__":
    unittest.main()
