"""Numbers, values, areas and coarse numbers, by asking for a few numbers alone [45] [46], *Few* [6]."""

import random
import unittest

from halvedpictures.asking import area_from, coarse_from, number_from, place_from
from halvedpictures.errors import NoPlace, NoSize, NoStep
from halvedpictures.fields import Field
from halvedpictures.halving import coarse, halved, put_back
from halvedpictures.hanging import hangs, needs
from halvedpictures.lifted import words
from halvedpictures.plans import Plan
from tests.helper import (
    Hung, assert_refused, back_as_written, back_in_place, is_place_of, is_plain_whole, shown, some_plans, some_rows,
    told_plans, wrong_things)


def answers_at(field, places):
    """A function that answers for these places alone."""
    answers = {place: field.at(place) for place in places}
    return lambda place: answers[place]


def never(place):
    raise AssertionError(f"{place} was asked for")


def some_questions(seed, times, most):
    """Plans, each with some numbers, values within a picture or not."""
    chance = random.Random(seed)
    for plan in told_plans()[::3] + list(some_plans(chance, times, 14)):
        yield chance, plan, Field(some_rows(chance, plan.height(), plan.width(), chance.choice((3, most))))


class ByHandTest(unittest.TestCase):
    def test_a_number_of_few_values(self):
        plan = Plan(1, 4, "sum", "rr")
        picture = Field([[1, 2, 3, 4]])
        self.assertEqual([number_from(plan, picture.at, (0, x)) for x in range(4)], [10, -4, -1, -1])
        self.assertEqual(number_from(plan, answers_at(picture, [(0, 2), (0, 3)]), (0, 3)), -1)

    def test_a_value_of_few_numbers(self):
        plan = Plan(1, 4, "sum", "rr")
        numbers = Field([[10, -4, -1, -1]])
        self.assertEqual([place_from(plan, numbers.at, (0, x)) for x in range(4)], [1, 2, 3, 4])
        self.assertEqual(place_from(plan, answers_at(numbers, [(0, 0), (0, 1), (0, 3)]), (0, 2)), 3)

    def test_an_area(self):
        plan = Plan(2, 4, "sum", "br")
        numbers = Field([[36, -8, -2, -2], [-8, -8, 0, 0]])
        self.assertEqual(area_from(plan, numbers.at, 0, 0, 2, 4).rows(), [[1, 2, 3, 4], [5, 6, 7, 8]])
        self.assertEqual(area_from(plan, numbers.at, 1, 3, 1, 1).rows(), [[8]])
        left = [(0, 0), (0, 1), (0, 2), (1, 0), (1, 2)]
        self.assertEqual(area_from(plan, answers_at(numbers, left), 0, 0, 2, 2).rows(), [[1, 2], [5, 6]])

    def test_a_coarse_number(self):
        plan = Plan(2, 4, "sum", "br")
        numbers = Field([[36, -8, -2, -2], [-8, -8, 0, 0]])
        self.assertEqual(coarse_from(plan, answers_at(numbers, [(0, 0)]), 2, (0, 0)), 36)
        ask = answers_at(numbers, [(0, 0), (0, 1)])
        self.assertEqual([coarse_from(plan, ask, 1, (0, x)) for x in (0, 1)], [14, 22])
        self.assertEqual(coarse_from(plan, numbers.at, 0, (1, 3)), 8)

    def test_without_steps_it_is_the_number_there(self):
        for word in words():
            plan, field = Plan(2, 2, word, ""), Field([[5, 6], [7, 8]])
            for place in field.places():
                ask = answers_at(field, [place])
                self.assertEqual(number_from(plan, ask, place), field.at(place))
                self.assertEqual(place_from(plan, ask, place), field.at(place))
                self.assertEqual(coarse_from(plan, ask, 0, place), field.at(place))
                self.assertEqual(area_from(plan, ask, place[0], place[1], 1, 1).rows(), [[field.at(place)]])


class FewTest(unittest.TestCase):
    def test_numbers_by_the_told_places_alone(self):
        for chance, plan, picture in some_questions(50, 100, 10 ** 5):
            numbers = halved(plan, picture)
            for place in chance.sample(picture.places(), min(8, len(picture.places()))):
                ask = answers_at(picture, hangs(plan, place))
                self.assertEqual(number_from(plan, ask, place), numbers.at(place))

    def test_values_by_the_told_numbers_alone(self):
        for chance, plan, numbers in some_questions(51, 100, 10 ** 9):
            picture = put_back(plan, numbers)
            for place in chance.sample(numbers.places(), min(8, len(numbers.places()))):
                ask = answers_at(numbers, needs(plan, place))
                self.assertEqual(place_from(plan, ask, place), picture.at(place))

    def test_areas_by_the_told_numbers_alone(self):
        for chance, plan, numbers in some_questions(52, 100, 10 ** 9):
            picture = put_back(plan, numbers)
            top, left = chance.randrange(plan.height()), chance.randrange(plan.width())
            ends = [(1, 1), (plan.height() - top, plan.width() - left),
                    (chance.randint(1, plan.height() - top), chance.randint(1, plan.width() - left))]
            for height, width in ends:
                inside = [(y, x) for y in range(top, top + height) for x in range(left, left + width)]
                told = {place for one in inside for place in needs(plan, one)}
                area = area_from(plan, answers_at(numbers, told), top, left, height, width)
                self.assertIsInstance(area, Field)
                self.assertEqual(area.rows(), [row[left:left + width] for row in picture.rows()[top:top + height]])

    def test_the_whole_picture_is_an_area(self):
        for chance, plan, numbers in some_questions(53, 10, 10 ** 9):
            area = area_from(plan, numbers.at, 0, 0, plan.height(), plan.width())
            self.assertTrue(area.same(put_back(plan, numbers)))

    def test_coarse_numbers_by_the_told_numbers_alone(self):
        for chance, plan, numbers in some_questions(54, 100, 10 ** 9):
            for step in range(plan.steps() + 1):
                field = coarse(plan, numbers, step)
                told = back_in_place(plan, {place: Hung(place) for place in numbers.places()}, step, back_as_written)
                for place in chance.sample(field.places(), min(3, len(field.places()))):
                    ask = answers_at(numbers, told[place].places)
                    self.assertEqual(coarse_from(plan, ask, step, place), field.at(place))

    def test_answers_at_the_bounds(self):
        for plan in told_plans()[::5]:
            sign = random.Random(55)
            values = Field([[sign.choice((-1, 1)) * 10 ** 5 for x in range(plan.width())]
                            for y in range(plan.height())])
            numbers = Field([[10 ** 4 * number for number in row] for row in values.rows()])
            place = (plan.height() - 1, plan.width() - 1)
            self.assertEqual(number_from(plan, values.at, place), halved(plan, values).at(place))
            self.assertEqual(place_from(plan, numbers.at, place), put_back(plan, numbers).at(place))

    def test_places_are_asked_for_as_tuples(self):
        asked = []

        def ask(place):
            asked.append(place)
            return 0
        plan = Plan(3, 3, "lean", "b")
        number_from(plan, ask, (0, 0))
        place_from(plan, ask, (0, 0))
        area_from(plan, ask, 0, 0, 2, 2)
        coarse_from(plan, ask, 1, (1, 1))
        self.assertGreater(len(asked), 0)
        for place in asked:
            self.assertTrue(is_place_of(place, 3, 3), place)


class RefusedTest(unittest.TestCase):
    def test_no_places_and_nothing_is_asked(self):
        for way in ("", "bb"):
            plan = Plan(3, 4, "guess", way)
            for thing in wrong_things() + [(3, 0), (0, 4), (2, 3), (0, -1), [0, 0], (False, 0)]:
                for told in (number_from, place_from):
                    if is_place_of(thing, 3, 4):
                        self.assertEqual(told(plan, lambda place: 0, thing), 0)
                    else:
                        assert_refused(self, NoPlace, {"found": thing}, told, plan, never, thing)

    def test_steps_ahead_of_places_and_nothing_is_asked(self):
        plan = Plan(3, 4, "half", "br")
        for thing in wrong_things() + [2, 3, -1]:
            if is_plain_whole(thing) and 0 <= thing <= 2:
                continue
            for place in ((0, 0), (2, 3), (9, 9), None, thing):
                assert_refused(self, NoStep, {"found": thing}, coarse_from, plan, never, thing, place)

    def test_places_of_the_corner_and_nothing_is_asked(self):
        plan = Plan(3, 4, "half", "br")
        for step, (height, width) in enumerate([(3, 4), (2, 2), (2, 1)]):
            for thing in wrong_things() + [(height - 1, width - 1), (height, 0), (0, width)]:
                if is_place_of(thing, height, width):
                    self.assertEqual(coarse_from(plan, lambda place: 0, step, thing), 0)
                else:
                    assert_refused(self, NoPlace, {"found": thing}, coarse_from, plan, never, step, thing)

    def test_first_places_of_areas(self):
        plan = Plan(3, 4, "lean", "b")
        for thing in wrong_things() + [3, 4, 2]:
            for top, left in ((thing, 0), (0, thing), (thing, thing)):
                if is_place_of((top, left), 3, 4):
                    continue
                for height, width in ((1, 1), (0, 0), (None, thing), (9, 9)):
                    error = assert_refused(self, NoPlace, {"found": (top, left)}, area_from, plan, never, top, left,
                                           height, width)
                    self.assertIs(error.found.__class__, tuple)
                    self.assertIs(error.found[0], top)
                    self.assertIs(error.found[1], left)

    def test_sizes_of_areas(self):
        plan = Plan(3, 4, "lean", "b")
        for top, left in ((0, 0), (1, 2), (2, 3)):
            for thing in wrong_things() + [2, 3, 4, 5]:
                for height, width in ((thing, 1), (1, thing), (thing, thing)):
                    if all(is_plain_whole(one) and one > 0 for one in (height, width)) and (
                            top + height <= 3 and left + width <= 4):
                        self.assertEqual(area_from(plan, lambda place: 0, top, left, height, width).rows(),
                                         [[0] * width] * height)
                    else:
                        assert_refused(self, NoSize, {"one": height, "other": width}, area_from, plan, never,
                                       top, left, height, width)

    def test_areas_that_go_one_beyond(self):
        plan = Plan(3, 4, "sum", "rp")
        for top in range(3):
            for left in range(4):
                for height, width in ((4 - top, 1), (1, 5 - left), (4 - top, 5 - left)):
                    assert_refused(self, NoSize, {"one": height, "other": width}, area_from, plan, never,
                                   top, left, height, width)


class UnchangedTest(unittest.TestCase):
    def test_the_plan_stays_and_the_answer_is_equal_each_time(self):
        for word in words():
            plan, field = Plan(4, 5, word, "bpr"), Field([[y * 7 - x for x in range(5)] for y in range(4)])
            before = shown([plan, field])
            for told in (number_from, place_from):
                self.assertEqual(told(plan, field.at, (1, 2)), told(Plan(4, 5, word, "bpr"), field.at, (1, 2)))
            area = area_from(plan, field.at, 1, 1, 2, 2)
            area.rows()[0].clear()
            self.assertTrue(area.same(area_from(plan, field.at, 1, 1, 2, 2)))
            self.assertEqual(shown([plan, field]), before)


if __name__ == "__main__":
    unittest.main()
