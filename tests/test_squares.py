"""Copies, what lies beneath, weights, places put back scaled, and squares [71] to [73] [77], *Squares* [7]."""

import random
import unittest

from halvedpictures.errors import NoField, NoPlace, NoSquares, TooGreat, Unlike
from halvedpictures.fields import Field
from halvedpictures.halving import halved
from halvedpictures.hanging import hangs, share
from halvedpictures.lifted import words
from halvedpictures.plans import Plan
from halvedpictures.squares import beneath, copies, scaled, squares, weight
from tests.helper import (
    SIZES_AND_WAYS, assert_refused, is_place_of, shown, some_plans, some_rows, told_plans, wrong_things)

MOST = 10 ** 9


def all_places(plan):
    return [(y, x) for y in range(plan.height()) for x in range(plan.width())]


def told_at(told, plan):
    """What is told of each place, in rows."""
    return [[told(plan, (y, x)) for x in range(plan.width())] for y in range(plan.height())]


def copies_by_walking(plan, place):
    """How often a place counts: doubled each time it is left over, along the steps."""
    (y, x), many = place, 1
    for step, letter in enumerate(plan.way()):
        height, width = plan.corner(step)
        if letter in "rb":
            many *= 2 if x == width - 1 and width % 2 else 1
            x //= 2
        if letter in "pb":
            many *= 2 if y == height - 1 and height % 2 else 1
            y //= 2
    return many


def halvings_in_all(plan):
    return sum(2 if letter == "b" else 1 for letter in plan.way())


def sum_plans(seed, times):
    """Plans of the rule sum, of all told sizes and ways and of some chance."""
    chance = random.Random(seed)
    for height, width, way in SIZES_AND_WAYS:
        yield chance, Plan(height, width, "sum", way)
    for plan in some_plans(chance, times, 14):
        yield chance, Plan(plan.height(), plan.width(), "sum", plan.way())


class CopiesTest(unittest.TestCase):
    def test_by_hand(self):
        for word in words():
            self.assertEqual(told_at(copies, Plan(3, 3, word, "b")), [[1, 1, 2], [1, 1, 2], [2, 2, 4]])
            self.assertEqual(told_at(copies, Plan(1, 5, word, "r")), [[1, 1, 1, 1, 2]])
            self.assertEqual(told_at(copies, Plan(1, 5, word, "rr")), [[1, 1, 1, 1, 4]])
            self.assertEqual(told_at(copies, Plan(1, 5, word, "rrr")), [[1, 1, 1, 1, 4]])
            self.assertEqual(told_at(copies, Plan(3, 2, word, "pr")), [[1, 1], [1, 1], [2, 2]])
            self.assertEqual(told_at(copies, Plan(1, 6, word, "rr")), [[1, 1, 1, 1, 2, 2]])
            self.assertEqual(told_at(copies, Plan(2, 3, word, "")), [[1, 1, 1], [1, 1, 1]])

    def test_even_sides_have_one_everywhere(self):
        for height, width, way in ((4, 4, "bb"), (8, 64, "bbbrrr"), (1, 64, "rrrrrr"), (2, 6, "b"), (6, 3, "p")):
            plan = Plan(height, width, "sum", way)
            for place in all_places(plan)[::1 + height * width // 50]:
                self.assertEqual(copies(plan, place), 1)

    def test_many_by_walking_and_by_the_shares(self):
        for plan in told_plans()[::3] + list(some_plans(random.Random(90), 30, 12)):
            due = {}
            height, width = plan.corner(plan.steps())
            for y in range(height):
                for x in range(width):
                    due.update(share(plan, plan.steps(), (y, x)))
            self.assertEqual(sorted(due), all_places(plan))
            for place in all_places(plan)[::1 + len(due) // 30]:
                self.assertEqual(copies(plan, place), due[place])
                self.assertEqual(copies(plan, place), copies_by_walking(plan, place))


class BeneathTest(unittest.TestCase):
    def test_by_hand(self):
        block, right, bottom = [(0, 0), (0, 1), (1, 0), (1, 1)], [(0, 2), (1, 2)], [(2, 0), (2, 1)]
        for word in words():
            self.assertEqual(told_at(beneath, Plan(3, 3, word, "b")), [
                [block, right, block], [bottom, [(2, 2)], bottom], [block, right, block]])
            self.assertEqual(told_at(beneath, Plan(1, 5, word, "rr")), [[
                [(0, 0), (0, 1), (0, 2), (0, 3)], [(0, 4)], [(0, 0), (0, 1), (0, 2), (0, 3)], [(0, 0), (0, 1)],
                [(0, 2), (0, 3)]]])
            self.assertEqual(told_at(beneath, Plan(3, 1, word, "p")), [[[(0, 0), (1, 0)]], [[(2, 0)]],
                                                                     [[(0, 0), (1, 0)]]])
            self.assertEqual(told_at(beneath, Plan(1, 2, word, "")), [[[(0, 0)], [(0, 1)]]])

    def test_it_is_on_what_the_number_hangs_by_the_rule_sum(self):
        for plan in told_plans()[::3] + list(some_plans(random.Random(91), 60, 12)):
            by_sum = Plan(plan.height(), plan.width(), "sum", plan.way())
            for place in all_places(plan)[::1 + len(all_places(plan)) // 60]:
                self.assertEqual(beneath(plan, place), hangs(by_sum, place), shown(plan))


class WeightTest(unittest.TestCase):
    def test_by_hand(self):
        for word in words():
            self.assertEqual(told_at(weight, Plan(3, 3, word, "b")), [[4, 4, 4]] * 3)
            self.assertEqual(told_at(weight, Plan(1, 5, word, "rr")), [[4, 4, 4, 8, 8]])
            self.assertEqual(told_at(weight, Plan(1, 3, word, "rr")), [[4, 4, 8]])
            self.assertEqual(told_at(weight, Plan(2, 2, word, "")), [[1, 1], [1, 1]])
            # Beneath (1, 1) lies what is left over along rows, ahead of the step along pillars.
            self.assertEqual(told_at(weight, Plan(2, 3, word, "rp")), [[4, 4, 8], [4, 4, 8]])
            # The difference of two that are left over has copies, and a step behind it.
            self.assertEqual(told_at(weight, Plan(2, 3, word, "pr")), [[4, 4, 4], [8, 8, 16]])

    def test_many_by_their_words(self):
        for plan in told_plans()[::3] + list(some_plans(random.Random(92), 30, 12)):
            by_sum = Plan(plan.height(), plan.width(), "sum", plan.way())
            for step, word, top, left, height, width in plan.parts():
                behind = halvings_in_all(plan) - sum(2 if letter == "b" else 1 for letter in plan.way()[:step + 1])
                for place in ((top, left), (top + height - 1, left + width - 1)):
                    many = sum(copies_by_walking(plan, one) for one in hangs(by_sum, place))
                    self.assertEqual(weight(plan, place), many * 4 ** behind, (shown(plan), place))


class ScaledTest(unittest.TestCase):
    def test_by_hand(self):
        # Behind the step back from the last one 1 3 come 4 -2, and 2 is left over; then 4, 5 count twice.
        plan, numbers = Plan(1, 5, "sum", "rr"), Field([[1, 2, 3, 4, 5]])
        self.assertEqual(scaled(plan, numbers).rows(), [[12, -4, 8, -12, 2]])
        self.assertEqual(squares(plan, numbers), 4 + 16 + 36 + 128 + 200)
        plan, numbers = Plan(2, 2, "sum", "b"), Field([[1, 2], [3, 5]])
        # Pillars first: 4 7 over -2 -3; then along rows.
        self.assertEqual(scaled(plan, numbers).rows(), [[11, -3], [-5, 1]])
        self.assertEqual(squares(plan, numbers), 4 * (1 + 4 + 9 + 25))
        plan, numbers = Plan(3, 1, "sum", "p"), Field([[1], [-1], [2]])
        self.assertEqual(scaled(plan, numbers).rows(), [[3], [-1], [-1]])
        self.assertEqual(squares(plan, numbers), 2 * 1 + 2 * 1 + 2 * 4)
        plan, numbers = Plan(1, 2, "sum", ""), Field([[3, -4]])
        self.assertEqual(scaled(plan, numbers).rows(), [[3, -4]])
        self.assertEqual(squares(plan, numbers), 25)

    def test_of_a_pictures_numbers_each_place_is_its_value_scaled(self):
        for chance, plan in sum_plans(93, 150):
            picture = Field(some_rows(chance, plan.height(), plan.width(), chance.choice((2, 10 ** 5))))
            power = 2 ** halvings_in_all(plan)
            told = scaled(plan, halved(plan, picture))
            self.assertEqual(told.rows(), [[power * value for value in row] for row in picture.rows()])

    def test_the_squares_of_a_picture_come_to_those_of_its_numbers(self):
        for chance, plan in sum_plans(94, 60):
            picture = Field(some_rows(chance, plan.height(), plan.width(), 10 ** 5))
            due = sum(picture.at(place) ** 2 * copies_by_walking(plan, place) for place in picture.places())
            self.assertEqual(squares(plan, halved(plan, picture)), 4 ** halvings_in_all(plan) * due)

    def test_the_squares_of_any_numbers_are_those_of_the_places(self):
        for chance, plan in sum_plans(95, 100):
            # All at the bound and of one sign: the greatest that can come.
            for rows in (some_rows(chance, plan.height(), plan.width(), chance.choice((1, MOST))),
                         [[MOST] * plan.width()] * plan.height()):
                numbers = Field(rows)
                told = scaled(plan, numbers)
                self.assertIsInstance(told, Field)
                due = sum(told.at(place) ** 2 * copies_by_walking(plan, place) for place in numbers.places())
                self.assertEqual(squares(plan, numbers), due)

    def test_the_squares_are_by_the_weights(self):
        for chance, plan in sum_plans(96, 10):
            if plan.height() * plan.width() <= 60:
                numbers = Field(some_rows(chance, plan.height(), plan.width(), 99))
                self.assertEqual(squares(plan, numbers),
                                 sum(numbers.at(place) ** 2 * weight(plan, place) for place in numbers.places()))


class RefusedTest(unittest.TestCase):
    def test_places(self):
        for word in words():
            plan = Plan(2, 3, word, "b")
            for thing in wrong_things() + [(2, 0), (0, 3), (1, 2), (-1, 0), [0, 0], (0, False)]:
                for told in (copies, weight, beneath):
                    if is_place_of(thing, 2, 3):
                        told(plan, thing)
                    else:
                        assert_refused(self, NoPlace, {"found": thing}, told, plan, thing)

    def test_other_rules_ahead_of_all_else(self):
        for word in ("half", "guess", "lean"):
            plan = Plan(2, 3, word, "b")
            for thing in wrong_things() + [Field([[1, 2, 3], [4, 5, 6]]), Field([[10 ** 14] * 3] * 2)]:
                for told in (scaled, squares):
                    assert_refused(self, NoSquares, {"found": word}, told, plan, thing)

    def test_numbers(self):
        plan = Plan(2, 2, "sum", "b")
        for told in (scaled, squares):
            for thing in wrong_things():
                if not isinstance(thing, Field):
                    assert_refused(self, NoField, {"found": thing}, told, plan, thing)
            for rows in ([[1]], [[1, 2]], [[1], [2]], [[1, 2, 3]] * 2, [[10 ** 14] * 2] * 3):
                fields = {"one": (2, 2), "other": (len(rows), len(rows[0]))}
                assert_refused(self, Unlike, fields, told, plan, Field(rows))

    def test_fine_and_coarse_numbers_at_the_bound_and_one_beyond(self):
        plan, right = Plan(2, 2, "sum", "b"), Field([[MOST, -MOST], [-MOST, MOST]])
        self.assertEqual(scaled(plan, right).rows(), [[0, 0], [0, 4 * MOST]])
        self.assertEqual(squares(plan, right), 16 * MOST ** 2)
        for told in (scaled, squares):
            for place in right.places():
                for number in (MOST + 1, -MOST - 1):
                    numbers = right.with_number(place, number)
                    assert_refused(self, TooGreat, {"place": place}, told, plan, numbers)
                    assert_refused(self, TooGreat, {"place": place}, told, plan,
                                   numbers.with_number((1, 1), -number))


class KeptTest(unittest.TestCase):
    def test_what_is_handed_in_stays_and_lists_are_the_askers_own(self):
        rows = [[1, 2, 3], [4, 5, 6], [7, 8, 9]]
        plan, numbers = Plan(3, 3, "sum", "bb"), Field(rows)
        rows[0][0] = 50
        before = shown([plan, numbers])
        told = beneath(plan, (0, 0))
        kept = list(told)
        told.clear()
        self.assertEqual(beneath(Plan(3, 3, "sum", "bb"), (0, 0)), kept)
        field = scaled(plan, numbers)
        field.rows()[0].clear()
        self.assertTrue(field.same(scaled(plan, Field([[1, 2, 3], [4, 5, 6], [7, 8, 9]]))))
        self.assertEqual(squares(plan, numbers), squares(plan, numbers))
        self.assertEqual((copies(plan, (2, 2)), weight(plan, (2, 2))), (copies(plan, (2, 2)), weight(plan, (2, 2))))
        self.assertEqual(shown([plan, numbers]), before)


if __name__ == "__main__":
    unittest.main()
