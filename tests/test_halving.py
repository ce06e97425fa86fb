"""Pictures halved by plans, and put back [35] [36], and the whole's promise of it [6]."""

import itertools
import random
import unittest

from halvedpictures.errors import NoField, NoStep, TooGreat, Unlike
from halvedpictures.fields import Field
from halvedpictures.halving import coarse, halved, put_back
from halvedpictures.lifted import rule_of, words
from halvedpictures.plans import Plan
from tests.helper import (
    assert_refused, cells_of, halved_in_place, is_plain_whole, rows_of, shown, some_plans, some_rows, told_plans,
    wrong_things)

MOST_VALUE = 10 ** 5
MOST_NUMBER = 10 ** 9


def cell_by_cell(plan, rows):
    """A picture halved in place, cell by cell, in the words of point 30."""
    cells = halved_in_place(plan, cells_of(rows), plan.steps(), lambda word, row: rule_of(word).halves(row))
    return rows_of(cells, plan.height(), plan.width())


def plans_by_chance(seed, times):
    chance = random.Random(seed)
    for plan in some_plans(chance, times, 20):
        yield chance, plan


class HalvedTest(unittest.TestCase):
    def test_a_step_along_rows_by_hand(self):
        picture = Field([[5, 2, -3], [1, 4, 8]])
        for word, due in (("sum", [[7, -6, 3], [5, 16, -3]]), ("half", [[3, -3, 3], [2, 8, -3]]),
                          ("guess", [[6, -2, 1], [1, 8, 0]]), ("lean", [[3, -3, 1], [2, 8, -2]])):
            self.assertEqual(halved(Plan(2, 3, word, "r"), picture).rows(), due, word)

    def test_a_step_along_pillars_by_hand(self):
        picture = Field([[5, 1], [2, 4], [-3, 8]])
        for word, due in (("sum", [[7, 5], [-6, 16], [3, -3]]), ("half", [[3, 2], [-3, 8], [3, -3]]),
                          ("guess", [[6, 1], [-2, 8], [1, 0]]), ("lean", [[3, 2], [-3, 8], [1, -2]])):
            self.assertEqual(halved(Plan(3, 2, word, "p"), picture).rows(), due, word)

    def test_a_step_along_both_by_hand(self):
        # Along rows by sum: 3 -1, 7 -1; by half: 1 -1, 3 -1; by guess: 2 1, 4 1; by lean as by half.
        picture = Field([[1, 2], [3, 4]])
        for word, due in (("sum", [[10, -2], [-4, 0]]), ("half", [[2, -1], [-2, 0]]),
                          ("guess", [[3, 1], [2, 0]]), ("lean", [[2, -1], [-2, 0]])):
            self.assertEqual(halved(Plan(2, 2, word, "b"), picture).rows(), due, word)

    def test_several_steps_by_hand(self):
        # By sum: 10 26 | -2 -2 ahead of it 3 7 11 15 | -1 -1 -1 -1, then 36 | -16.
        picture = Field([[1, 2, 3, 4, 5, 6, 7, 8]])
        self.assertEqual(halved(Plan(1, 8, "sum", "rrr"), picture).rows(), [[36, -16, -4, -4, -1, -1, -1, -1]])
        self.assertEqual(halved(Plan(1, 8, "half", "rr"), picture).rows(), [[2, 6, -2, -2, -1, -1, -1, -1]])
        tall = Field([[1, 2], [3, 4], [5, 6]])
        self.assertEqual(halved(Plan(3, 2, "sum", "rp"), tall).rows(), [[10, -1], [22, -1], [-4, -1]])
        self.assertEqual(halved(Plan(3, 2, "sum", "pr"), tall).rows(), [[10, -2], [22, -2], [-2, -2]])

    def test_no_steps_change_nothing(self):
        picture = Field([[5, -6], [7, 8]])
        for word in words():
            plan = Plan(2, 2, word, "")
            for field in (halved(plan, picture), put_back(plan, picture), coarse(plan, picture, 0)):
                self.assertIsInstance(field, Field)
                self.assertEqual(field.rows(), [[5, -6], [7, 8]])

    def test_many_pictures_cell_by_cell(self):
        chance = random.Random(7)
        for plan in told_plans():
            rows = some_rows(chance, plan.height(), plan.width(), chance.choice((3, 200, MOST_VALUE)))
            field = halved(plan, Field(rows))
            self.assertEqual((field.height(), field.width()), (plan.height(), plan.width()))
            self.assertEqual(field.rows(), cell_by_cell(plan, rows), (plan.rule().word(), plan.way()))

    def test_all_small_pictures_cell_by_cell(self):
        for word, way in itertools.product(words(), ("r", "p", "b", "rp", "pr")):
            plan = Plan(2, 2, word, way)
            for numbers in itertools.product(range(-2, 3), repeat=4):
                rows = [list(numbers[:2]), list(numbers[2:])]
                numbers = halved(plan, Field(rows))
                self.assertEqual(numbers.rows(), cell_by_cell(plan, rows))
                self.assertEqual(put_back(plan, numbers).rows(), rows)


class PutBackTest(unittest.TestCase):
    def test_every_picture_is_put_back(self):
        chance = random.Random(8)
        for plan in told_plans():
            for most in (1, 50, MOST_VALUE):
                picture = Field(some_rows(chance, plan.height(), plan.width(), most))
                numbers = halved(plan, picture)
                self.assertTrue(put_back(plan, numbers).same(picture), (plan.rule().word(), plan.way()))

    def test_pictures_of_some_sizes_and_ways_are_put_back(self):
        for chance, plan in plans_by_chance(9, 200):
            picture = Field(some_rows(chance, plan.height(), plan.width(), 1000))
            self.assertTrue(put_back(plan, halved(plan, picture)).same(picture))

    def test_pictures_at_the_bounds_are_halved_and_put_back(self):
        chance = random.Random(10)
        for plan in told_plans():
            for bent in (0, 1, 2):
                rows = [[MOST_VALUE * (-1) ** (bent * chance.randrange(2) + (bent == 2) * (x + y))
                         for x in range(plan.width())] for y in range(plan.height())]
                self.assertEqual(put_back(plan, halved(plan, Field(rows))).rows(), rows)

    def test_numbers_need_not_come_from_a_picture(self):
        self.assertEqual(put_back(Plan(1, 2, "sum", "r"), Field([[4, 1]])).rows(), [[2, 2]])
        self.assertEqual(put_back(Plan(1, 3, "sum", "r"), Field([[-1, 3, 0]])).rows(), [[-1, 0, 1]])
        self.assertEqual(put_back(Plan(2, 1, "half", "p"), Field([[MOST_NUMBER], [1]])).rows(),
                         [[MOST_NUMBER + 1], [MOST_NUMBER]])

    def test_a_step_along_both_goes_back_by_pillars_first(self):
        # By sum the pillars 3 0 and 0 3 go back to 1 2 and 1 -1, the rows 1 1 and 2 -1 to 1 0 and 0 2.
        self.assertEqual(put_back(Plan(2, 2, "sum", "b"), Field([[3, 0], [0, 3]])).rows(), [[1, 0], [0, 2]])

    def test_numbers_that_are_put_back_to_a_picture_are_its_own(self):
        many = 0
        for chance, plan in plans_by_chance(11, 300):
            if plan.rule().word() != "sum":
                numbers = Field(some_rows(chance, plan.height(), plan.width(), chance.choice((2, 500, 20000))))
                picture = put_back(plan, numbers)
                if max(abs(number) for number in picture.flat()) <= MOST_VALUE:
                    self.assertTrue(halved(plan, picture).same(numbers), (plan.rule().word(), plan.way()))
                    many += 1
        self.assertGreater(many, 100)

    def test_unlike_pictures_have_unlike_numbers(self):
        for word in words():
            plan = Plan(2, 3, word, "b")
            told = {tuple(halved(plan, Field([list(numbers[:3]), list(numbers[3:])])).flat())
                    for numbers in itertools.product((-1, 0, 1), repeat=6)}
            self.assertEqual(len(told), 3 ** 6)

    def test_numbers_at_the_bounds_are_put_back(self):
        chance = random.Random(12)
        for plan in told_plans():
            for time in range(3):
                rows = [[chance.choice((-MOST_NUMBER, MOST_NUMBER)) for x in range(plan.width())]
                        for y in range(plan.height())]
                field = put_back(plan, Field(rows))
                self.assertEqual((field.height(), field.width()), (plan.height(), plan.width()))


class CoarseTest(unittest.TestCase):
    def test_by_hand(self):
        plan = Plan(1, 8, "sum", "rrr")
        numbers = Field([[36, -16, -4, -4, -1, -1, -1, -1]])
        self.assertEqual(coarse(plan, numbers, 3).rows(), [[36]])
        self.assertEqual(coarse(plan, numbers, 2).rows(), [[10, 26]])
        self.assertEqual(coarse(plan, numbers, 1).rows(), [[3, 7, 11, 15]])
        self.assertEqual(coarse(plan, numbers, 0).rows(), [[1, 2, 3, 4, 5, 6, 7, 8]])

    def test_the_coarse_field_is_the_corner_that_the_steps_left(self):
        chance = random.Random(13)
        for plan in told_plans():
            rows = some_rows(chance, plan.height(), plan.width(), 900)
            numbers = halved(plan, Field(rows))
            for step in range(plan.steps() + 1):
                shorter = Plan(plan.height(), plan.width(), plan.rule().word(), plan.way()[:step])
                height, width = plan.corner(step)
                due = [row[:width] for row in cell_by_cell(shorter, rows)[:height]]
                self.assertEqual(coarse(plan, numbers, step).rows(), due)

    def test_of_any_numbers_it_is_put_back_for_nought_and_the_coarse_part_for_the_last(self):
        for chance, plan in plans_by_chance(14, 100):
            rows = some_rows(chance, plan.height(), plan.width(), MOST_NUMBER)
            numbers = Field(rows)
            self.assertTrue(coarse(plan, numbers, 0).same(put_back(plan, numbers)))
            height, width = plan.corner(plan.steps())
            self.assertEqual(coarse(plan, numbers, plan.steps()).rows(), [row[:width] for row in rows[:height]])


class RefusedTest(unittest.TestCase):
    def test_what_is_no_field_is_refused_ahead_of_all_else(self):
        plan = Plan(2, 3, "lean", "b")
        for thing in wrong_things():
            if isinstance(thing, Field):
                continue
            for deed in (halved, put_back):
                assert_refused(self, NoField, {"found": thing}, deed, plan, thing)
            for step in (0, 1, 2, -1, None, "1", True):
                assert_refused(self, NoField, {"found": thing}, coarse, plan, thing, step)

    def test_unlike_sizes_are_refused_ahead_of_great_numbers(self):
        for height, width in ((2, 2), (1, 1), (1, 6), (3, 2), (2, 4), (6, 1)):
            plan = Plan(2, 3, "half", "b")
            for number in (0, 10 ** 14):
                field = Field([[number] * width for line in range(height)])
                fields = {"one": (2, 3), "other": (height, width)}
                for deed in (halved, put_back):
                    assert_refused(self, Unlike, fields, deed, plan, field)
                for step in (0, 2, None):
                    assert_refused(self, Unlike, fields, coarse, plan, field, step)

    def test_values_at_their_bounds_and_beyond(self):
        self.assert_bounds(MOST_VALUE, halved)

    def test_numbers_at_their_bounds_and_beyond(self):
        self.assert_bounds(MOST_NUMBER, put_back)
        self.assert_bounds(MOST_NUMBER, lambda plan, numbers: coarse(plan, numbers, 1))
        self.assert_bounds(MOST_NUMBER, lambda plan, numbers: coarse(plan, numbers, 0))

    def assert_bounds(self, most, deed):
        for word in words():
            plan = Plan(2, 3, word, "b")
            for y, x in itertools.product(range(2), range(3)):
                for number in (most, -most):
                    self.assertIsInstance(deed(plan, Field([[0] * 3] * 2).with_number((y, x), number)), Field)
                for number in (most + 1, -most - 1, 10 ** 15 - 1, 1 - 10 ** 15):
                    field = Field([[0] * 3] * 2).with_number((y, x), number)
                    assert_refused(self, TooGreat, {"place": (y, x)}, deed, plan, field)
                    if (y, x) != (1, 2):
                        assert_refused(self, TooGreat, {"place": (y, x)}, deed, plan,
                                       field.with_number((1, 2), -number))

    def test_the_first_place_by_rows_is_told(self):
        field = Field([[0, 0, 10 ** 10], [10 ** 10, 0, 0]])
        for deed in (halved, put_back):
            assert_refused(self, TooGreat, {"place": (0, 2)}, deed, Plan(2, 3, "sum", "r"), field)
        assert_refused(self, TooGreat, {"place": (0, 2)}, coarse, Plan(2, 3, "sum", "r"), field, "none")

    def test_numbers_of_no_step_are_refused_last(self):
        for way in ("", "r", "bp"):
            plan = Plan(3, 2, "guess", way)
            right, great, other = Field([[1, 2]] * 3), Field([[1, 10 ** 9 + 1]] * 3), Field([[1, 2]])
            for thing in wrong_things() + [plan.steps() + 1, -1]:
                if is_plain_whole(thing) and 0 <= thing <= plan.steps():
                    self.assertEqual(coarse(plan, right, thing).height(), plan.corner(thing)[0])
                else:
                    assert_refused(self, NoStep, {"found": thing}, coarse, plan, right, thing)
                    assert_refused(self, TooGreat, {"place": (0, 1)}, coarse, plan, great, thing)
                    assert_refused(self, Unlike, {"one": (3, 2), "other": (1, 2)}, coarse, plan, other, thing)


class KeptTest(unittest.TestCase):
    def test_what_is_handed_in_stays_and_the_answer_is_equal_each_time(self):
        for word in words():
            plan, picture = Plan(5, 7, word, "bpr"), Field([[y * x - 9 for x in range(7)] for y in range(5)])
            before = shown([plan, picture])
            numbers = halved(plan, picture)
            numbers_before = shown(numbers)
            self.assertEqual(shown(halved(Plan(5, 7, word, "bpr"), Field(picture.rows()))), numbers_before)
            self.assertEqual(shown(put_back(plan, numbers)), shown(picture))
            self.assertEqual(shown(coarse(plan, numbers, 1)), shown(coarse(plan, numbers, 1)))
            self.assertEqual(shown([plan, picture]), before)
            self.assertEqual(shown(numbers), numbers_before)

    def test_lists_told_of_answers_change_nothing(self):
        rows = [[1, 2], [3, 4]]
        plan, picture = Plan(2, 2, "sum", "b"), Field(rows)
        numbers = halved(plan, picture)
        rows[0][0] = 50
        numbers.rows()[0].clear()
        self.assertEqual(numbers.rows(), [[10, -2], [-4, 0]])
        put_back(plan, numbers).rows()[1][1] = 9
        self.assertEqual(put_back(plan, numbers).rows(), [[1, 2], [3, 4]])
        self.assertEqual(halved(plan, picture).rows(), [[10, -2], [-4, 0]])

    def test_the_rule_of_a_plan_is_the_rule_that_halves(self):
        for word in words():
            row = [7, -3, 2, 2, 9]
            sums, differences = rule_of(word).halves(row)
            self.assertEqual(halved(Plan(1, 5, word, "r"), Field([row])).flat(), sums + differences)


if __name__ == "__main__":
    unittest.main()
