"""Numbers written as a row of signs [93]."""

import random
import unittest

from halvedpictures.errors import NoField, TooGreat, Unlike
from halvedpictures.fields import Field
from halvedpictures.halving import halved
from halvedpictures.lifted import words
from halvedpictures.plans import Plan
from halvedpictures.signs import signs
from tests.helper import (
    assert_refused, cells_of, row_as_written, shown, some_plans, some_rows, told_plans, wrong_things)

MOST = 10 ** 9


class SignsTest(unittest.TestCase):
    def test_by_hand(self):
        for word, check in (("sum", "83"), ("half", "48"), ("guess", "55"), ("lean", "32")):
            self.assertEqual(signs(Plan(1, 2, word, "r"), Field([[5, -2]])),
                             f"halved 1 2 {word} r 3 {check}:1+080;01-37;1089;")
        self.assertEqual(signs(Plan(1, 4, "sum", "rr"), Field([[12, -6, -1, -3]])),
                         "halved 1 4 sum rr 4 39:1+00028;11-0005;0101-12;001-146;")

    def test_numbers_that_are_all_nought_have_no_plane(self):
        self.assertEqual(signs(Plan(1, 1, "sum", ""), Field([[0]])), "halved 1 1 sum - 0 83:")
        self.assertEqual(signs(Plan(1, 2, "lean", "r"), Field([[0, 0]])), "halved 1 2 lean r 0 02:")

    def test_numbers_stand_in_the_plans_order(self):
        # The third place of the first row stands behind the first two of the second row.
        row = signs(Plan(2, 4, "sum", "rp"), Field([[0, 0, -1, 0], [1, 0, 0, 0]]))
        self.assertTrue(row.partition(":")[2].startswith("001+01-000"), row)

    def test_numbers_at_the_bounds(self):
        plan = Plan(1, 2, "guess", "")
        row = signs(plan, Field([[MOST, -MOST]]))
        self.assertTrue(row.startswith("halved 1 2 guess - 30 "))
        self.assertTrue(row.partition(":")[2].startswith("1+1-"))
        self.assertEqual(row.count(";"), 30)
        self.assertEqual(row, row_as_written(plan, {(0, 0): MOST, (0, 1): -MOST}, 30))

    def test_many_as_written(self):
        chance = random.Random(140)
        for plan in told_plans() + list(some_plans(chance, 150, 12)):
            for most in (0, 1, 6, MOST):
                rows = some_rows(chance, plan.height(), plan.width(), most)
                planes = len(f"{max(abs(number) for row in rows for number in row):b}".lstrip("0"))
                self.assertEqual(signs(plan, Field(rows)), row_as_written(plan, cells_of(rows), planes))

    def test_halved_pictures(self):
        chance = random.Random(141)
        for plan in told_plans():
            numbers = halved(plan, Field(some_rows(chance, plan.height(), plan.width(), 10 ** 5)))
            row = signs(plan, numbers)
            self.assertLessEqual(len(row), 20000)
            self.assertEqual(row.partition(":")[2].count("-"), sum(number < 0 for number in numbers.flat()))
            self.assertEqual(row.partition(":")[2].count("+"), sum(number > 0 for number in numbers.flat()))


class RefusedTest(unittest.TestCase):
    def test_in_their_order(self):
        for word in words():
            plan, right = Plan(2, 2, word, "b"), Field([[MOST, 2], [3, -MOST]])
            for thing in wrong_things():
                if not isinstance(thing, Field):
                    assert_refused(self, NoField, {"found": thing}, signs, plan, thing)
            for rows in ([[1]], [[1, 2]], [[1], [2]], [[1, 2, 3]] * 2, [[10 ** 14] * 2] * 3):
                assert_refused(self, Unlike, {"one": (2, 2), "other": (len(rows), len(rows[0]))}, signs, plan,
                               Field(rows))
            for place in right.places():
                for number in (MOST + 1, -MOST - 1):
                    assert_refused(self, TooGreat, {"place": place}, signs, plan,
                                   right.with_number((1, 1), number).with_number(place, number))

    def test_what_is_handed_in_stays(self):
        plans, numbers = [Plan(2, 2, "sum", "b"), Plan(2, 2, "sum", "rp")], Field([[1, 2], [3, -4]])
        before = shown([plans, numbers])
        due = [signs(plan, numbers) for plan in plans]
        for time in range(2):
            self.assertEqual([signs(plan, numbers) for plan in plans], due)
        self.assertEqual(shown([plans, numbers]), before)


if __name__ == "__main__":
    unittest.main()
