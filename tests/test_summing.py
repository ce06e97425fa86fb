"""Two pictures summed, their rests, and bounds of these [80] to [83], *Two* [7]."""

import itertools
import random
import unittest

from halvedpictures.errors import NoField, TooGreat, Unlike
from halvedpictures.fields import Field
from halvedpictures.halving import halved
from halvedpictures.lifted import words
from halvedpictures.plans import Plan
from halvedpictures.summing import added, can_be_rests, rest_bounds, rests
from tests.helper import assert_refused, halves_as_written, shown, some_plans, some_rows, told_plans, wrong_things

MOST = 10 ** 5
GREAT = 10 ** 15 - 1


def plus(one, other):
    """The rows of the sum of rows."""
    return [[a + b for a, b in zip(here, there)] for here, there in zip(one, other)]


def single_as_written(word, l, h):
    """The bounds sl, sh, dl and dh, in the words of point 82."""
    if word == "sum":
        return l + l, h + h, l - h, h - l
    if word == "half":
        return l, h + 1, l - h, h - l
    if word == "guess":
        dl, dh = l - h - 1, h - l
        return l + (dl + dl - 2) // 4, h + (dh + dh + 4) // 4, dl, dh
    sl, sh = l, h + 1
    return sl, sh, l - h - (sh - sl + 4) // 4, h - l - (sl - sh - 2) // 4


def bounds_by_place(plan):
    """The bounds of each place, carried along the steps place by place."""
    cells = {(y, x): (0, 0) for y in range(plan.height()) for x in range(plan.width())}
    word = plan.rule().word()
    for step, letter in enumerate(plan.way()):
        height, width = plan.corner(step)
        for axis in [axis for axis, letters in ((1, "rb"), (0, "pb")) if letter in letters]:
            middle = ((height, width)[axis] + 1) // 2
            for place in itertools.product(range(height), range(width)):
                sl, sh, dl, dh = single_as_written(word, *cells[place])
                cells[place] = (sl, sh) if place[axis] < middle else (dl, dh)
    return cells


class AddedTest(unittest.TestCase):
    def test_by_hand(self):
        for one, other, due in (([[1, 2], [3, 4]], [[10, -20], [0, -4]], [[11, -18], [3, 0]]), ([[0]], [[0]], [[0]]),
                                ([[5, -5]], [[-5, 5]], [[0, 0]]), ([[1], [2]], [[3], [5]], [[4], [7]])):
            told = added(Field(one), Field(other))
            self.assertIsInstance(told, Field)
            self.assertEqual(told.rows(), due)

    def test_many(self):
        chance = random.Random(110)
        for plan in some_plans(chance, 60, 20):
            one, other = [some_rows(chance, plan.height(), plan.width(), GREAT // 2) for time in range(2)]
            self.assertEqual(added(Field(one), Field(other)).rows(), plus(one, other))

    def test_sums_of_fifteen_and_of_sixteen_figures(self):
        for sign in (1, -1):
            great = sign * GREAT
            self.assertEqual(added(Field([[great, great - sign]]), Field([[0, sign]])).rows(), [[great, great]])
            self.assertEqual(added(Field([[great]]), Field([[-great]])).rows(), [[0]])
            fields = Field([[great, 0], [great, 1]]), Field([[0, great], [sign, great]])
            assert_refused(self, TooGreat, {"place": (1, 0)}, added, *fields)
            fields = Field([[0, great], [great, 1]]), Field([[0, great], [great, great]])
            assert_refused(self, TooGreat, {"place": (0, 1)}, added, *fields)
            assert_refused(self, TooGreat, {"place": (0, 0)}, added, Field([[great]]), Field([[sign]]))

    def test_refused_in_their_order(self):
        right = Field([[1, 2], [3, 4]])
        for thing in wrong_things():
            if isinstance(thing, Field):
                continue
            for other in (right, None, thing, Field([[1]])):
                assert_refused(self, NoField, {"found": thing}, added, thing, other)
            assert_refused(self, NoField, {"found": thing}, added, right, thing)
            assert_refused(self, NoField, {"found": thing}, added, Field([[GREAT]]), thing)
        for one, other in (((1, 2), (2, 1)), ((1, 1), (1, 2)), ((3, 2), (2, 2)), ((2, 6), (3, 4))):
            fields = [Field([[GREAT] * width] * height) for height, width in (one, other)]
            assert_refused(self, Unlike, {"one": one, "other": other}, added, fields[0], fields[1])
            assert_refused(self, Unlike, {"one": other, "other": one}, added, fields[1], fields[0])


class RestsTest(unittest.TestCase):
    def test_by_hand(self):
        for word, one, other, due in (
                ("sum", [[1, 0]], [[1, 0]], [[0, 0]]), ("half", [[1, 0]], [[1, 0]], [[1, 0]]),
                ("half", [[1, 0]], [[2, 0]], [[0, 0]]), ("guess", [[0, 1]], [[0, 1]], [[-1, 0]]),
                ("guess", [[1, 0, 0]], [[1, 0, 0]], [[0, 0, -1]]), ("lean", [[1, 0]], [[1, 0]], [[1, 0]]),
                # Each leans by (1 - 0 + 2) // 4, which is 0, but their sum by (2 - 0 + 2) // 4.
                ("lean", [[1, 1, 0, 0]], [[1, 1, 0, 0]], [[0, 0, -1, -1]])):
            plan = Plan(1, len(one[0]), word, "r")
            told = rests(plan, Field(one), Field(other))
            self.assertIsInstance(told, Field)
            self.assertEqual(told.rows(), due, (word, one))

    def test_without_steps_there_are_none(self):
        for word in words():
            told = rests(Plan(2, 2, word, ""), Field([[1, 2], [3, 4]]), Field([[5, -6], [7, 9]]))
            self.assertEqual(told.rows(), [[0, 0], [0, 0]])

    def test_they_part_the_numbers_and_lie_within_the_bounds(self):
        chance = random.Random(111)
        for plan in told_plans() + list(some_plans(chance, 150, 12)):
            for most in (1, 3, MOST // 2):
                one, other = [some_rows(chance, plan.height(), plan.width(), most) for time in range(2)]
                told = rests(plan, Field(one), Field(other))
                whole = halved(plan, Field(plus(one, other))).rows()
                parts = plus(halved(plan, Field(one)).rows(), halved(plan, Field(other)).rows())
                self.assertEqual(plus(parts, told.rows()), whole)
                self.assertIs(can_be_rests(plan, told), True, shown(plan))
                self.assertTrue(told.same(rests(plan, Field(other), Field(one))))

    def test_by_sum_there_are_none(self):
        chance = random.Random(112)
        for plan in told_plans()[::4]:
            one, other = [Field(some_rows(chance, plan.height(), plan.width(), MOST // 2)) for time in range(2)]
            self.assertEqual(set(rests(plan, one, other).flat()), {0})
            self.assertTrue(halved(plan, added(one, other)).same(added(halved(plan, one), halved(plan, other))))

    def test_values_and_sums_at_the_bounds(self):
        for sign in (1, -1):
            plan, most = Plan(2, 2, "half", "b"), sign * MOST
            self.assertEqual(rests(plan, Field([[most, 0], [-most, 1]]), Field([[0, most], [most, 1]])).rows(),
                             rests(plan, Field([[0, most], [most, 1]]), Field([[most, 0], [-most, 1]])).rows())
            right = Field([[most, 0], [-most, 0]])
            for y, x, value in ((0, 0, sign), (0, 1, sign), (1, 0, -sign), (1, 1, -sign)):
                one = right.with_number((0, 1), most).with_number((1, 1), -most)
                other = Field([[0, 0], [0, 0]]).with_number((y, x), value)
                assert_refused(self, TooGreat, {"place": (y, x)}, rests, plan, one, other)
                assert_refused(self, TooGreat, {"place": (y, x)}, rests, plan, one, other.with_number((1, 1), -sign))

    def test_the_one_is_refused_ahead_of_the_other(self):
        plan, right = Plan(2, 2, "lean", "b"), Field([[MOST, 2], [3, -MOST]])
        wrong = [None, Field([[1]]), Field([[MOST + 1, 0], [0, 0]]), Field([[MOST, 0], [0, 0]])]
        for thing in wrong_things():
            if not isinstance(thing, Field):
                for other in wrong + [right]:
                    assert_refused(self, NoField, {"found": thing}, rests, plan, thing, other)
                assert_refused(self, NoField, {"found": thing}, rests, plan, right, thing)
        for rows in ([[1]], [[1, 2]], [[1, 2, 3]] * 2, [[10 ** 14] * 2] * 3):
            fields = {"one": (2, 2), "other": (len(rows), len(rows[0]))}
            for other in wrong + [right]:
                assert_refused(self, Unlike, fields, rests, plan, Field(rows), other)
            assert_refused(self, Unlike, fields, rests, plan, right, Field(rows))
        for place in right.places():
            for value in (MOST + 1, -MOST - 1):
                beyond = right.with_number((1, 1), value).with_number(place, value)
                for other in wrong + [right]:
                    assert_refused(self, TooGreat, {"place": place}, rests, plan, beyond, other)
                # The sum is beyond at the first place, but the other one is no picture itself.
                assert_refused(self, TooGreat, {"place": place}, rests, plan, right, beyond.with_number(
                    (0, 0), value if place == (0, 0) else MOST))


class RestBoundsTest(unittest.TestCase):
    def test_by_hand(self):
        for word, way, due in (
                ("half", "r", [(1, "coarse", 0, 1), (0, "row", 0, 0)]),
                ("half", "rr", [(2, "coarse", 0, 2), (1, "row", -1, 1), (0, "row", 0, 0)]),
                ("half", "b", [(1, "coarse", 0, 2), (0, "row", 0, 1), (0, "pillar", -1, 1), (0, "both", 0, 0)]),
                ("half", "pr", [(2, "coarse", 0, 2), (1, "row", -1, 1), (0, "pillar", 0, 0)]),
                ("guess", "r", [(1, "coarse", -1, 1), (0, "row", -1, 0)]),
                ("guess", "b", [(1, "coarse", -3, 3), (0, "row", -3, 1), (0, "pillar", -3, 2), (0, "both", -2, 1)]),
                ("lean", "p", [(1, "coarse", 0, 1), (0, "pillar", -1, 1)]),
                ("lean", "b", [(1, "coarse", 0, 2), (0, "row", -1, 2), (0, "pillar", -2, 2), (0, "both", -3, 4)]),
                ("sum", "bp", [(2, "coarse", 0, 0), (1, "pillar", 0, 0), (0, "row", 0, 0), (0, "pillar", 0, 0),
                               (0, "both", 0, 0)])):
            self.assertEqual(rest_bounds(Plan(4, 4, word, way)), due, (word, way))

    def test_without_steps(self):
        for word in words():
            self.assertEqual(rest_bounds(Plan(2, 3, word, "")), [(0, "coarse", 0, 0)])

    def test_many_place_by_place(self):
        for plan in told_plans() + list(some_plans(random.Random(113), 150, 14)):
            cells, told = bounds_by_place(plan), rest_bounds(plan)
            self.assertEqual([one[:2] for one in told], [part[:2] for part in plan.parts()])
            for (step, word, low, high), part in zip(told, plan.parts()):
                top, left, height, width = part[2:]
                for place in itertools.product(range(top, top + height), range(left, left + width)):
                    self.assertEqual(cells[place], (low, high), (shown(plan), place))

    def test_by_sum_all_are_nought(self):
        for plan in told_plans()[::4]:
            self.assertEqual({one[2:] for one in rest_bounds(plan)}, {(0, 0)})

    def test_one_halving_of_every_two_small_rows(self):
        for word in words():
            (step, name, low, high), (step, name, less, more) = rest_bounds(Plan(1, 3, word, "r"))
            found = [set(), set()]
            for one in itertools.product(range(4), repeat=3):
                for other in itertools.product(range(4), repeat=3):
                    halves = [halves_as_written(word, list(row)) for row in
                              ([a + b for a, b in zip(one, other)], one, other)]
                    for at in (0, 1):
                        found[at] |= {a - b - c for a, b, c in zip(*[half[at] for half in halves])}
            self.assertTrue(low <= min(found[0]) and max(found[0]) <= high, word)
            self.assertTrue(less <= min(found[1]) and max(found[1]) <= more, word)


class CanBeRestsTest(unittest.TestCase):
    def test_at_the_bounds_and_one_beyond(self):
        for plan in [plan for plan in told_plans() + list(some_plans(random.Random(114), 60, 9))
                     if plan.height() * plan.width() <= 81]:
            cells = bounds_by_place(plan)
            for at in (0, 1):
                field = Field([[cells[y, x][at] for x in range(plan.width())] for y in range(plan.height())])
                self.assertIs(can_be_rests(plan, field), True)
                for place in field.places():
                    for number, due in ((cells[place][0], True), (cells[place][0] - 1, False), (cells[place][1], True),
                                        (cells[place][1] + 1, False)):
                        self.assertIs(can_be_rests(plan, field.with_number(place, number)), due)

    def test_by_sum_only_noughts(self):
        plan = Plan(2, 2, "sum", "b")
        self.assertIs(can_be_rests(plan, Field([[0, 0], [0, 0]])), True)
        self.assertIs(can_be_rests(plan, Field([[0, 0], [0, 1]])), False)
        self.assertIs(can_be_rests(plan, Field([[-1, 0], [0, 0]])), False)

    def test_any_thing(self):
        for word in words():
            plan = Plan(2, 2, word, "b")
            for thing in wrong_things() + [Field([[0]]), Field([[0, 0]]), Field([[0, 0]] * 3), Field([[0] * 3] * 2),
                                           [[0, 0], [0, 0]], [Field([[0, 0]] * 2)], Field([[10 ** 14] * 2] * 2)]:
                before = shown(thing)
                self.assertIs(can_be_rests(plan, thing), False)
                self.assertEqual(shown(thing), before)


class NothingInCommonTest(unittest.TestCase):
    def test_what_is_handed_in_stays_and_lists_are_the_askers_own(self):
        rows = [[1, 2], [3, 4]]
        plan, one, other = Plan(2, 2, "guess", "b"), Field(rows), Field([[0, 1], [1, 0]])
        rows[0][0] = 50
        before = shown([plan, one, other])
        told = rest_bounds(plan)
        due = list(told)
        told.clear()
        self.assertEqual(rest_bounds(plan), due)
        self.assertEqual(rest_bounds(Plan(2, 2, "guess", "b")), due)
        added(one, other).rows()[0].clear()
        self.assertEqual(added(one, other).rows(), [[1, 3], [4, 4]])
        self.assertTrue(rests(plan, one, other).same(rests(Plan(2, 2, "guess", "b"), one, other)))
        self.assertEqual(shown([plan, one, other]), before)

    def test_two_plans_by_turns(self):
        plans = [Plan(1, 2, "half", "r"), Plan(1, 2, "guess", "r")]
        for time in range(3):
            self.assertEqual([rest_bounds(plan)[0] for plan in plans], [(1, "coarse", 0, 1), (1, "coarse", -1, 1)])
            self.assertEqual([rests(plan, Field([[0, 1]]), Field([[0, 1]])).rows() for plan in plans],
                             [[[1, 0]], [[-1, 0]]])
            self.assertEqual([can_be_rests(plan, Field([[-1, 0]])) for plan in plans], [False, True])


if __name__ == "__main__":
    unittest.main()
