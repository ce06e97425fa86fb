"""Checks, heads, and numbers of planes [91] [92] [93]."""

import random
import unittest

from halvedpictures.errors import NoField, NoNumber, TooGreat, Unlike
from halvedpictures.fields import Field
from halvedpictures.lifted import words
from halvedpictures.plans import Plan
from halvedpictures.planes import check_of, head_of, planes_of
from tests.helper import (
    SIGNS, SIZES_AND_WAYS, assert_refused, check_as_written, head_as_written, is_plain_whole, shown, some_rows,
    told_plans, wrong_things)

MOST = 10 ** 9


class CheckTest(unittest.TestCase):
    def test_by_hand(self):
        for text, due in (("", "00"), (" ", "00"), ("!", "01"), ("~", "94"), ("  ", "00"), ("!!", "11"), ("!*", "20"),
                          # 10 * 94 + 94 is 1034, which is 10 * 97 and 64.
                          ("~~", "64"), ("0", "16"), ("1", "17"), ("00", "79"), ("1+", "84"), ("1-", "86"),
                          # The greatest one: 10 times 9 and 6.
                          (")&", "96"), ("%", "05")):
            self.assertEqual(check_of(text), due, text)

    def test_many(self):
        chance = random.Random(130)
        for time in range(300):
            text = "".join(chance.choice(SIGNS) for sign in range(chance.choice((1, 2, 5, 40, 600))))
            self.assertEqual(check_of(text), check_as_written(text))

    def test_another_sign_has_another_check(self):
        chance = random.Random(131)
        for time in range(20):
            text = "".join(chance.choice(SIGNS) for sign in range(chance.choice((1, 3, 97, 98, 200))))
            at = chance.randrange(len(text))
            self.assertEqual(len({check_of(text[:at] + sign + text[at + 1:]) for sign in SIGNS}), len(SIGNS))

    def test_every_check_comes(self):
        found = {check_of(one + other) for one in SIGNS for other in SIGNS}
        self.assertEqual(found, {f"{number:02d}" for number in range(97)})


class HeadTest(unittest.TestCase):
    def test_by_hand(self):
        self.assertEqual(head_of(Plan(2, 3, "half", "r"), 4), "halved 2 3 half r 4 60:")
        self.assertEqual(head_of(Plan(1, 1, "sum", ""), 0), "halved 1 1 sum - 0 83:")

    def test_many(self):
        for plan in told_plans():
            for planes in (0, 1, 9, 10, 29, 30):
                due = head_as_written(plan.height(), plan.width(), plan.rule().word(), plan.way() or "-", planes)
                self.assertEqual(head_of(plan, planes), due)

    def test_unlike_plans_and_planes_have_unlike_heads(self):
        plans = told_plans()
        self.assertEqual(len({head_of(plan, planes) for plan in plans for planes in range(31)}), 31 * len(plans))

    def test_refused_planes(self):
        for word in words():
            plan = Plan(2, 3, word, "b")
            for thing in wrong_things() + [30, 31, -1, 29]:
                if is_plain_whole(thing) and 0 <= thing <= 30:
                    self.assertTrue(head_of(plan, thing).startswith(f"halved 2 3 {word} b {thing} "))
                else:
                    assert_refused(self, NoNumber, {"found": thing}, head_of, plan, thing)


class PlanesTest(unittest.TestCase):
    def test_by_hand(self):
        for number, due in ((0, 0), (1, 1), (2, 2), (3, 2), (4, 3), (5, 3), (7, 3), (8, 4), (MOST, 30)):
            for word in words():
                self.assertEqual(planes_of(Plan(1, 1, word, ""), Field([[number]])), due)
                self.assertEqual(planes_of(Plan(2, 2, word, "b"), Field([[0, 0], [-number, 0]])), due)

    def test_powers(self):
        plan = Plan(1, 3, "guess", "r")
        for power in range(30):
            for sign in (1, -1):
                self.assertEqual(planes_of(plan, Field([[0, sign * 2 ** power, 0]])), power + 1)
                self.assertEqual(planes_of(plan, Field([[0, 0, sign * (2 ** power - 1)]])), power)

    def test_the_least_that_is_enough(self):
        chance = random.Random(132)
        for height, width, way in SIZES_AND_WAYS:
            for most in (1, 5, 1000, MOST):
                numbers = Field(some_rows(chance, height, width, most))
                told = planes_of(Plan(height, width, "lean", way), numbers)
                self.assertTrue(all(abs(number) < 2 ** told for number in numbers.flat()))
                self.assertTrue(told == 0 or any(abs(number) >= 2 ** (told - 1) for number in numbers.flat()))

    def test_refused_numbers(self):
        for word in words():
            plan, right = Plan(2, 2, word, "b"), Field([[MOST, 2], [3, -MOST]])
            for thing in wrong_things():
                if not isinstance(thing, Field):
                    assert_refused(self, NoField, {"found": thing}, planes_of, plan, thing)
            for rows in ([[1]], [[1, 2]], [[1, 2, 3]] * 2, [[10 ** 14] * 2] * 3):
                assert_refused(self, Unlike, {"one": (2, 2), "other": (len(rows), len(rows[0]))}, planes_of, plan,
                               Field(rows))
            for place in right.places():
                for number in (MOST + 1, -MOST - 1):
                    assert_refused(self, TooGreat, {"place": place}, planes_of, plan,
                                   right.with_number((1, 1), number).with_number(place, number))


class NothingInCommonTest(unittest.TestCase):
    def test_what_is_handed_in_stays(self):
        plans, numbers = [Plan(2, 2, "sum", "b"), Plan(1, 4, "lean", "")], Field([[1, 2], [3, 4]])
        before = shown([plans, numbers])
        for time in range(3):
            self.assertEqual([head_of(plan, 3) for plan in plans], [head_of(Plan(2, 2, "sum", "b"), 3),
                                                                   head_of(Plan(1, 4, "lean", ""), 3)])
            self.assertEqual(planes_of(plans[0], numbers), 3)
            self.assertEqual(planes_of(plans[1], Field([[1, 1, -1, 0]])), 1)
        self.assertEqual(shown([plans, numbers]), before)


if __name__ == "__main__":
    unittest.main()
