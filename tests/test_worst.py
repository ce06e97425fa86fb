"""How far away what is put back may be [60] [62] [64] [65], *Left out* [6]."""

import random
import unittest

from halvedpictures.errors import NoField, NoNumber, TooGreat, Unlike
from halvedpictures.fields import Field
from halvedpictures.halving import put_back
from halvedpictures.leaving import apart, left_out
from halvedpictures.lifted import words
from halvedpictures.plans import Plan
from halvedpictures.worst import bound_within, greatest, worst
from tests.helper import (
    assert_refused, back_in_place, carried_as_written, cells_of, is_plain_whole, rows_of, shown, some_plans,
    some_rows, told_plans, wrong_things)

MOST_ERROR = 2 ** 30
MOST_NUMBER = 10 ** 9


def some_errors(chance, plan, most):
    return Field([[abs(number) for number in row] for row in some_rows(chance, plan.height(), plan.width(), most)])


def plans_of_chance(seed, times):
    chance = random.Random(seed)
    for plan in told_plans() + list(some_plans(chance, times, 14)):
        yield chance, plan


def fine_errors(plan, bound):
    """The errors of point 64, by the parts of the plan."""
    height, width = plan.corner(plan.steps())
    return Field([[0 if y < height and x < width else bound for x in range(plan.width())]
                  for y in range(plan.height())])


class WorstTest(unittest.TestCase):
    def test_by_hand(self):
        for word, way, errors, due in (
                ("half", "rr", [[0, 0, 2, 4]], [[1, 1, 2, 2]]),
                ("half", "rr", [[1, 2, 0, 3]], [[2, 2, 4, 4]]),
                ("sum", "rr", [[1, 2, 0, 3]], [[1, 1, 3, 3]]),
                ("guess", "r", [[0, 1, 1, 5]], [[1, 3, 3, 8]]),
                ("lean", "r", [[0, 1, 1, 5]], [[1, 1, 4, 4]]),
                ("lean", "", [[0, 1, 1, 5]], [[0, 1, 1, 5]]),
                ("guess", "p", [[3], [4], [2]], [[4], [7], [5]]),
                ("lean", "p", [[3], [4], [2]], [[5], [5], [4]]),
                ("sum", "b", [[1, 2], [3, 4]], [[3, 3], [3, 3]])):
            told = worst(Plan(len(errors), len(errors[0]), word, way), Field(errors))
            self.assertIsInstance(told, Field)
            self.assertEqual(told.rows(), due, (word, way, errors))

    def test_a_step_along_both_goes_back_by_pillars_first(self):
        # Pillars first: 1 1 in both rows, then 1 and half of 1; rows first it would be 1 everywhere.
        self.assertEqual(worst(Plan(2, 2, "half", "b"), Field([[0, 0], [1, 1]])).rows(), [[2, 2], [2, 2]])

    def test_just_as_numbers_are_put_back(self):
        for chance, plan in plans_of_chance(72, 100):
            errors = some_errors(chance, plan, chance.choice((1, 30, MOST_ERROR)))
            due = back_in_place(plan, cells_of(errors.rows()), 0, carried_as_written)
            self.assertEqual(worst(plan, errors).rows(), rows_of(due, plan.height(), plan.width()), shown(plan))

    def test_no_errors_have_no_worst(self):
        for plan in told_plans():
            nought = Field([[0] * plan.width()] * plan.height())
            self.assertTrue(worst(plan, nought).same(nought))

    def test_the_greatest_errors(self):
        for plan in told_plans():
            told = worst(plan, Field([[MOST_ERROR] * plan.width()] * plan.height()))
            self.assertGreaterEqual(max(told.flat()), MOST_ERROR)

    def test_greater_errors_have_no_lesser_worst(self):
        for chance, plan in plans_of_chance(73, 60):
            errors = some_errors(chance, plan, 6)
            more = Field([[error + chance.choice((0, 0, 1)) for error in row] for row in errors.rows()])
            self.assertTrue(all(a <= b for a, b in zip(worst(plan, errors).flat(), worst(plan, more).flat())))

    def test_nothing_that_is_put_back_is_farther_away(self):
        for chance, plan in plans_of_chance(74, 250):
            for most in (1, chance.choice((4, 1000)), MOST_ERROR):
                errors = some_errors(chance, plan, most)
                numbers = some_rows(chance, plan.height(), plan.width(), chance.choice((5, MOST_NUMBER)))
                other = [[max(-MOST_NUMBER, min(MOST_NUMBER, number + chance.choice((-error, error))))
                          for number, error in zip(*pair)] for pair in zip(numbers, errors.rows())]
                here, there = put_back(plan, Field(numbers)), put_back(plan, Field(other))
                for one, two, bound in zip(here.flat(), there.flat(), worst(plan, errors).flat()):
                    self.assertLessEqual(abs(one - two), bound, shown(plan))


class GreatestTest(unittest.TestCase):
    def test_by_hand(self):
        for height, width, word, way, bound, due in (
                (1, 2, "sum", "r", 6, 3), (1, 2, "sum", "r", 7, 4), (1, 2, "half", "r", 5, 3),
                (1, 4, "half", "rr", 3, 4), (1, 2, "guess", "r", 4, 6), (1, 2, "lean", "r", 3, 2),
                (2, 2, "half", "b", 1, 2), (1, 4, "half", "rr", 0, 0)):
            self.assertEqual(greatest(Plan(height, width, word, way), bound), due, (word, way, bound))

    def test_it_is_the_greatest_of_the_worst(self):
        for chance, plan in plans_of_chance(75, 60):
            for bound in (0, 1, chance.randint(0, 1000), MOST_NUMBER):
                self.assertEqual(greatest(plan, bound), max(worst(plan, fine_errors(plan, bound)).flat()))

    def test_nought_without_steps_and_for_nought(self):
        for word in words():
            for bound in (0, 1, MOST_NUMBER):
                self.assertEqual(greatest(Plan(3, 4, word, ""), bound), 0)
            self.assertEqual(greatest(Plan(3, 4, word, "bb"), 0), 0)

    def test_numbers_without_the_small_ones_put_back_nothing_farther_away(self):
        for chance, plan in plans_of_chance(76, 200):
            most = chance.choice((6, 5000, MOST_NUMBER))
            numbers = Field(some_rows(chance, plan.height(), plan.width(), most))
            for bound in (0, most // 3, most):
                away = apart(put_back(plan, numbers), put_back(plan, left_out(plan, numbers, bound)))
                self.assertLessEqual(away, greatest(plan, bound), shown(plan))

    def test_refused_bounds(self):
        plan = Plan(2, 3, "lean", "b")
        for thing in wrong_things() + [MOST_NUMBER, MOST_NUMBER + 1]:
            if is_plain_whole(thing) and 0 <= thing <= MOST_NUMBER:
                self.assertTrue(is_plain_whole(greatest(plan, thing)))
            else:
                assert_refused(self, NoNumber, {"found": thing}, greatest, plan, thing)


class BoundWithinTest(unittest.TestCase):
    def test_by_hand(self):
        plan = Plan(1, 2, "sum", "r")
        for most, due in ((0, 0), (1, 2), (3, 6), (5 * 10 ** 8 - 1, 10 ** 9 - 2), (5 * 10 ** 8, 10 ** 9),
                          (10 ** 15, 10 ** 9)):
            self.assertEqual(bound_within(plan, most), due)
        plan = Plan(1, 4, "half", "rr")
        self.assertEqual([bound_within(plan, most) for most in range(5)], [0, 0, 2, 2, 4])

    def test_without_steps_it_is_the_greatest_bound(self):
        for word in words():
            for most in (0, 7, 10 ** 15):
                self.assertEqual(bound_within(Plan(2, 2, word, ""), most), 10 ** 9)

    def test_it_keeps_within_and_the_next_one_does_not(self):
        chance = random.Random(77)
        for plan in told_plans()[::3] + list(some_plans(chance, 15, 14)):
            for most in (0, chance.randint(1, 50), chance.randint(10 ** 5, 10 ** 9)):
                bound = bound_within(plan, most)
                self.assertLessEqual(greatest(plan, bound), most)
                if bound < MOST_NUMBER:
                    self.assertGreater(greatest(plan, bound + 1), most)
                else:
                    self.assertEqual(bound, MOST_NUMBER)

    def test_the_greatest_most_lets_each_bound(self):
        for plan in told_plans()[::5]:
            self.assertEqual(bound_within(plan, 10 ** 15), 10 ** 9)

    def test_refused_mosts(self):
        plan = Plan(2, 2, "guess", "b")
        for thing in wrong_things() + [10 ** 15, 10 ** 15 + 1, -1]:
            if is_plain_whole(thing) and 0 <= thing <= 10 ** 15:
                self.assertTrue(is_plain_whole(bound_within(plan, thing)))
            else:
                assert_refused(self, NoNumber, {"found": thing}, bound_within, plan, thing)


class RefusedErrorsTest(unittest.TestCase):
    def test_what_is_no_field(self):
        plan = Plan(2, 2, "guess", "b")
        for thing in wrong_things():
            if not isinstance(thing, Field):
                assert_refused(self, NoField, {"found": thing}, worst, plan, thing)

    def test_unlike_sizes_ahead_of_great_numbers(self):
        plan = Plan(2, 2, "guess", "b")
        for rows in ([[1]], [[1, 2]], [[1], [2]], [[1, 2, 3]] * 2, [[-1] * 2] * 3, [[10 ** 14] * 4]):
            fields = {"one": (2, 2), "other": (len(rows), len(rows[0]))}
            assert_refused(self, Unlike, fields, worst, plan, Field(rows))

    def test_the_first_place_beyond(self):
        for word in words():
            for way in ("", "b", "rp"):
                plan, most = Plan(2, 2, word, way), Field([[MOST_ERROR, 0], [0, MOST_ERROR]])
                self.assertIsInstance(worst(plan, most), Field)
                for place in most.places():
                    for number in (-1, MOST_ERROR + 1, 1 - 10 ** 15, 10 ** 15 - 1):
                        errors = most.with_number(place, number)
                        assert_refused(self, TooGreat, {"place": place}, worst, plan, errors)
                        if place != (1, 1):
                            both = errors.with_number((1, 1), number)
                            assert_refused(self, TooGreat, {"place": place}, worst, plan, both)


class KeptTest(unittest.TestCase):
    def test_what_is_handed_in_stays(self):
        for word in words():
            rows = [[1, 2, 3], [4, 5, 6], [7, 8, 9]]
            plan, errors = Plan(3, 3, word, "bb"), Field(rows)
            rows[0][0] = 50
            before, told = shown([plan, errors]), worst(plan, errors)
            told.rows()[0].clear()
            self.assertTrue(told.same(worst(Plan(3, 3, word, "bb"), Field(errors.rows()))))
            self.assertEqual(greatest(plan, 5), greatest(plan, 5))
            self.assertEqual(bound_within(plan, 5), bound_within(plan, 5))
            self.assertEqual(shown([plan, errors]), before)


if __name__ == "__main__":
    unittest.main()
