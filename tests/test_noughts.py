"""Inner numbers, rising fields, and fine numbers that are 0 [84] to [87], *Noughts* [7]."""

import random
import unittest

from halvedpictures.errors import NoField, NoNumber, NoSize, NoWay, TooGreat, Unlike
from halvedpictures.fields import Field
from halvedpictures.halving import halved
from halvedpictures.lifted import words
from halvedpictures.noughts import compared, inner, noughts, rising
from halvedpictures.plans import Plan
from tests.helper import (
    SIZES_AND_WAYS, assert_refused, halved_in_place, is_plain_whole, shown, some_plans, some_rows, told_plans,
    wrong_things)

MOST = 10 ** 5
STEEP = 10 ** 6


def marks_as_written(word, row):
    """The marks of the sums and the differences of a row, in the words of point 84."""
    many, pairs = (len(row) + 1) // 2, len(row) // 2
    if word == "guess":
        differences = [set(row[2 * i:2 * i + 3]) == {True} and len(row) > 2 * i + 2 for i in range(pairs)]
        sums = [row[2 * i] and 0 < i < pairs and differences[i - 1] and differences[i] for i in range(many)]
        return sums, differences
    sums = [len(row[2 * i:2 * i + 2]) == 2 and False not in row[2 * i:2 * i + 2] for i in range(many)]
    if word == "lean":
        return sums, [0 < i < many - 1 and False not in sums[i - 1:i + 2] for i in range(pairs)]
    return sums, sums[:pairs]


def inner_as_written(plan):
    marks = {(y, x): True for y in range(plan.height()) for x in range(plan.width())}
    marks = halved_in_place(plan, marks, plan.steps(), marks_as_written)
    return [place for place in plan.order() if marks[place]]


def fine_places(plan):
    return [place for part in plan.parts()[1:] for place in
            [(part[2] + y, part[3] + x) for y in range(part[4]) for x in range(part[5])]]


class InnerTest(unittest.TestCase):
    def test_rows_by_hand(self):
        for word, width, way, due in (
                ("sum", 4, "r", [0, 1, 2, 3]), ("half", 4, "r", [0, 1, 2, 3]), ("sum", 3, "r", [0, 2]),
                ("half", 5, "r", [0, 1, 3, 4]), ("half", 5, "rr", [0, 2, 3, 4]), ("sum", 2, "r", [0, 1]),
                ("guess", 5, "r", [1, 3, 4]), ("guess", 4, "r", [2]), ("guess", 2, "r", []), ("guess", 3, "r", [2]),
                ("guess", 9, "r", [1, 2, 3, 5, 6, 7, 8]),
                ("lean", 8, "r", [0, 1, 2, 3, 5, 6]), ("lean", 7, "r", [0, 1, 2, 5]), ("lean", 2, "r", [0]),
                ("lean", 6, "r", [0, 1, 2, 4]), ("lean", 5, "r", [0, 1]), ("lean", 3, "r", [0])):
            plan = Plan(1, width, word, way)
            self.assertEqual(inner(plan), [(0, x) for x in due], (word, width))
            plan = Plan(width, 1, word, way.replace("r", "p"))
            self.assertEqual(inner(plan), [(y, 0) for y in due], (word, width))

    def test_fields_by_hand(self):
        self.assertEqual(inner(Plan(3, 3, "half", "b")), [(0, 0), (0, 2), (2, 0), (2, 2)])
        self.assertEqual(inner(Plan(2, 2, "sum", "b")), [(0, 0), (0, 1), (1, 0), (1, 1)])
        # Behind the rows the third pillar has the mark; along it the third place has it.
        self.assertEqual(inner(Plan(4, 4, "guess", "b")), [(2, 2)])
        # The marks of the first step stay outside of the corner.
        self.assertEqual(inner(Plan(3, 4, "guess", "rp")), [(0, 2), (1, 2), (2, 2)])
        self.assertEqual(inner(Plan(2, 6, "lean", "rp")), [(0, 0), (0, 1), (0, 2), (0, 4), (1, 4)])

    def test_without_steps_all_are_inner(self):
        for word in words():
            self.assertEqual(inner(Plan(2, 3, word, "")), [(0, 0), (0, 1), (0, 2), (1, 0), (1, 1), (1, 2)])

    def test_places_stand_in_the_plans_order(self):
        self.assertEqual(inner(Plan(2, 4, "sum", "rp")),
                         [(0, 0), (0, 1), (1, 0), (1, 1), (0, 2), (0, 3), (1, 2), (1, 3)])

    def test_many_as_written(self):
        for plan in told_plans() + list(some_plans(random.Random(120), 200, 16)):
            self.assertEqual(inner(plan), inner_as_written(plan), shown(plan))

    def test_sides_even_at_each_step_have_all_by_sum_and_half(self):
        for word in ("sum", "half"):
            plan = Plan(8, 64, word, "bbbrrr")
            self.assertEqual(inner(plan), plan.order())


class RisingTest(unittest.TestCase):
    def test_by_hand(self):
        for things, due in (((2, 3, 10, 1, -5), [[10, 11, 12], [5, 6, 7]]), ((1, 1, -7, 8, 9), [[-7]]),
                            ((3, 1, 0, 5, 2), [[0], [2], [4]]), ((1, 2, 0, -5, 2), [[0, -5]])):
            told = rising(*things)
            self.assertIsInstance(told, Field)
            self.assertEqual(told.rows(), due)

    def test_at_the_bounds(self):
        for start in (STEEP, -STEEP):
            for along in (STEEP, -STEEP):
                for down in (STEEP, -STEEP):
                    told = rising(8, 64, start, along, down)
                    self.assertEqual(told.at((7, 63)), start + 63 * along + 7 * down)
                    self.assertEqual((told.height(), told.width()), (8, 64))

    def test_refused_in_their_order(self):
        for thing in wrong_things() + [STEEP + 1, -STEEP - 1]:
            fine = is_plain_whole(thing) and -STEEP <= thing <= STEEP
            if not (is_plain_whole(thing) and 1 <= thing <= 64):
                assert_refused(self, NoSize, {"one": thing, "other": 2}, rising, thing, 2, 1, 1, 1)
                assert_refused(self, NoSize, {"one": 2, "other": thing}, rising, 2, thing, None, 1, thing)
            if not fine:
                for more in (1, None, STEEP + 1):
                    assert_refused(self, NoNumber, {"found": thing}, rising, 2, 3, thing, more, more)
                    assert_refused(self, NoNumber, {"found": thing}, rising, 2, 3, 1, thing, more)
                assert_refused(self, NoNumber, {"found": thing}, rising, 2, 3, 1, 1, thing)
            else:
                self.assertEqual(rising(1, 1, thing, thing, thing).rows(), [[thing]])
        for height, width in ((9, 64), (64, 9), (23, 23), (0, 1), (65, 1)):
            assert_refused(self, NoSize, {"one": height, "other": width}, rising, height, width, None, None, None)


class FollowsTest(unittest.TestCase):
    def test_fine_numbers_of_flat_pictures_are_nought(self):
        chance = random.Random(121)
        for plan in told_plans() + list(some_plans(chance, 100, 14)):
            for value in (0, 1, -1, chance.randint(-MOST, MOST), MOST, -MOST):
                picture = Field([[value] * plan.width()] * plan.height())
                numbers = halved(plan, picture)
                self.assertEqual({numbers.at(place) for place in fine_places(plan)} - {0}, set())
                self.assertEqual(noughts(plan, picture), len(fine_places(plan)))

    def test_inner_fine_numbers_of_rising_pictures_are_nought_by_guess_and_lean(self):
        chance, found = random.Random(122), 0
        for plan in told_plans() + list(some_plans(chance, 300, 22)):
            if plan.rule().word() in ("guess", "lean"):
                for steep in (1, 2, 3, 400):
                    start, along, down = [chance.randint(-steep, steep) for time in range(3)]
                    picture = rising(plan.height(), plan.width(), start, along, down)
                    numbers = halved(plan, picture)
                    places = [place for place in inner(plan) if place in fine_places(plan)]
                    self.assertEqual({numbers.at(place) for place in places} - {0}, set(), shown(plan))
                    found += len(places)
        self.assertGreater(found, 1000)

    def test_curved_rows_by_guess(self):
        chance, found = random.Random(123), 0
        for height, width, way in SIZES_AND_WAYS:
            if not way.startswith("r"):
                continue
            plan = Plan(height, width, "guess", way)
            for q in (0, 1, -1, 3):
                k = chance.randint(-50, 50)
                picture = Field([[c + k * x + q * x * x for x in range(width)]
                                 for c in [chance.randint(-99, 99) for y in range(height)]])
                numbers = halved(plan, picture)
                step, word, top, left, many, wide = plan.parts()[-1]
                self.assertEqual((step, word), (0, "row"))
                for place in inner(plan):
                    if top <= place[0] < top + many and left <= place[1] < left + wide:
                        self.assertEqual(numbers.at(place), -q)
                        found += 1
        self.assertGreater(found, 100)


class NoughtsTest(unittest.TestCase):
    def test_by_hand(self):
        for word, due in (("sum", 0), ("half", 0), ("guess", 1), ("lean", 0)):
            self.assertEqual(noughts(Plan(1, 4, word, "r"), Field([[1, 2, 3, 4]])), due)
        # The numbers are 4 0 0 0 and 8 4 0 0: a coarse 0 does not count.
        self.assertEqual(noughts(Plan(1, 4, "sum", "r"), Field([[2, 2, 0, 0]])), 2)
        self.assertEqual(noughts(Plan(1, 4, "sum", "rr"), Field([[2, 2, 0, 0]])), 2)
        self.assertEqual(noughts(Plan(1, 4, "sum", "r"), Field([[1, -1, 0, 0]])), 1)
        self.assertEqual(noughts(Plan(2, 2, "half", "b"), Field([[1, 2], [1, 2]])), 2)

    def test_without_steps_none_is_fine(self):
        for word in words():
            self.assertEqual(noughts(Plan(2, 2, word, ""), Field([[0, 0], [0, 0]])), 0)

    def test_many(self):
        chance = random.Random(124)
        for plan in some_plans(chance, 150, 14):
            picture = Field(some_rows(chance, plan.height(), plan.width(), 1))
            numbers = halved(plan, picture)
            self.assertEqual(noughts(plan, picture), [numbers.at(place) for place in fine_places(plan)].count(0))

    def test_refused_as_halving_refuses(self):
        for word in words():
            plan, right = Plan(2, 2, word, "b"), Field([[MOST, 2], [3, -MOST]])
            for thing in wrong_things():
                if not isinstance(thing, Field):
                    assert_refused(self, NoField, {"found": thing}, noughts, plan, thing)
            for rows in ([[1]], [[1, 2]], [[1, 2, 3]] * 2, [[10 ** 14] * 2] * 3):
                assert_refused(self, Unlike, {"one": (2, 2), "other": (len(rows), len(rows[0]))}, noughts, plan,
                               Field(rows))
            for place in right.places():
                for value in (MOST + 1, -MOST - 1):
                    assert_refused(self, TooGreat, {"place": place}, noughts, plan,
                                   right.with_number((1, 1), value).with_number(place, value))


class ComparedTest(unittest.TestCase):
    def test_by_hand(self):
        for rows, way, due in (([[1, 2, 3, 4]], "r", [0, 0, 1, 0]), ([[5, 5], [5, 5]], "b", [3, 3, 3, 3]),
                               ([[0, 0]], "", [0, 0, 0, 0]), ([[7]], "", [0, 0, 0, 0]),
                               # By guess 1 - (0 + 2) // 2 and 3 - (2 + 4) // 2; by lean the sums are 0 2 4, so the
                               # second difference is -1 - (0 - 4 + 2) // 4, and the first one -1 - (0 - 2 + 2) // 4.
                               ([[0, 1, 2, 3, 4]], "r", [0, 0, 2, 1])):
            self.assertEqual(compared(Field(rows), way), list(zip(["sum", "half", "guess", "lean"], due)))

    def test_the_lean_one_of_a_rising_row(self):
        # The sums are 0 2 4, so the middle difference is guessed to be (0 - 4 + 2) // 4, and it is -1.
        self.assertEqual(compared(Field([[0, 1, 2, 3, 4, 5]]), "r"),
                         [("sum", 0), ("half", 0), ("guess", 2), ("lean", 1)])

    def test_many(self):
        chance = random.Random(125)
        for plan in some_plans(chance, 60, 12):
            picture = Field(some_rows(chance, plan.height(), plan.width(), 2))
            due = [(word, noughts(Plan(plan.height(), plan.width(), word, plan.way()), picture)) for word in words()]
            self.assertEqual(shown(compared(picture, plan.way())), shown(due))

    def test_refused_in_their_order(self):
        right = Field([[MOST, 2], [3, -MOST]])
        for thing in wrong_things():
            for way in ("b", "rr", None, thing):
                if not isinstance(thing, Field):
                    assert_refused(self, NoField, {"found": thing}, compared, thing, way)
            for place in right.places():
                for value in (MOST + 1, -MOST - 1):
                    assert_refused(self, TooGreat, {"place": place}, compared,
                                   right.with_number((1, 1), value).with_number(place, value), thing)
            if thing in ("", "r"):
                self.assertEqual(len(compared(right, thing)), 4)
            else:
                assert_refused(self, NoWay, {"found": thing}, compared, right, thing)
        for way in ("bb", "rr", "pp", "rpr", "x", "R", "r ", "b-", "-"):
            assert_refused(self, NoWay, {"found": way}, compared, right, way)


class NothingInCommonTest(unittest.TestCase):
    def test_what_is_handed_in_stays_and_lists_are_the_askers_own(self):
        rows = [[1, 2], [3, 4]]
        plan, picture = Plan(2, 2, "sum", "b"), Field(rows)
        rows[0][0] = 50
        before = shown([plan, picture])
        for ask in (lambda: inner(plan), lambda: compared(picture, "b")):
            told = ask()
            due = list(told)
            told.clear()
            self.assertEqual(ask(), due)
        rising(2, 2, 1, 2, 3).rows()[0].clear()
        self.assertEqual(rising(2, 2, 1, 2, 3).rows(), [[1, 3], [4, 6]])
        self.assertEqual(noughts(plan, picture), noughts(Plan(2, 2, "sum", "b"), Field([[1, 2], [3, 4]])))
        self.assertEqual(shown([plan, picture]), before)

    def test_two_plans_and_two_pictures_by_turns(self):
        plans = [Plan(1, 4, "sum", "r"), Plan(1, 4, "guess", "r")]
        pictures = [Field([[1, 2, 3, 4]]), Field([[1, 1, 2, 2]])]
        for time in range(3):
            self.assertEqual([inner(plan) for plan in plans], [[(0, 0), (0, 1), (0, 2), (0, 3)], [(0, 2)]])
            self.assertEqual([noughts(plan, picture) for plan in plans for picture in pictures], [0, 2, 1, 2])


if __name__ == "__main__":
    unittest.main()
