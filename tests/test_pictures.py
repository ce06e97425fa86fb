"""Pictures that change by deeds, with their numbers [50] to [54], *Few* [6]."""

import random
import unittest

from halvedpictures.errors import NoDeed, NoField, NoNumber, NoPlace, TooGreat, Unlike
from halvedpictures.fields import Field
from halvedpictures.halving import halved
from halvedpictures.hanging import hangs
from halvedpictures.lifted import words
from halvedpictures.pictures import Picture
from halvedpictures.plans import Plan
from tests.helper import (
    assert_refused, is_place_of, is_plain_whole, shown, some_plans, some_rows, told_plans, wrong_things)

MOST = 10 ** 5


def put(picture, place, value):
    return picture.put(place, value)


def add(picture, field):
    return picture.add(field)


def undo(picture):
    return picture.undo()


def some_picture(chance, plan, most):
    return Picture(plan, Field(some_rows(chance, plan.height(), plan.width(), most)))


def some_deed(chance, picture):
    """Do what some chance likes, and tell the changes."""
    if picture.deeds() > 0 and chance.randrange(3) == 0:
        return picture.undo()
    if chance.randrange(3) == 0:
        plan = picture.plan()
        return picture.add(Field(some_rows(chance, plan.height(), plan.width(), chance.choice((0, 5, 400)))))
    place = chance.choice(picture.field().places())
    values = (-MOST // 2, 0, MOST // 2, picture.field().at(place), chance.randint(-9, 9))
    return picture.put(place, chance.choice(values))


def exchanged(changes):
    return [(place, behind, before) for place, before, behind in changes]


class Base(unittest.TestCase):
    def assert_stands(self, picture, rows, deeds):
        """The picture has these rows, their numbers, and so many deeds."""
        self.assertEqual(picture.field().rows(), rows)
        self.assertTrue(picture.numbers().same(halved(picture.plan(), Field(rows))))
        self.assertEqual(picture.deeds(), deeds)

    def assert_changes(self, plan, changes, before, behind):
        """The changes are just those from one field of numbers to another, in the plan's order."""
        due = [(place, before.at(place), behind.at(place)) for place in plan.order()
               if before.at(place) != behind.at(place)]
        self.assertEqual(shown(changes), shown(due))


class MadeTest(Base):
    def test_a_picture_tells_what_it_was_made_of(self):
        plan = Plan(1, 4, "sum", "rr")
        picture = Picture(plan, Field([[1, 2, 3, 4]]))
        self.assertIs(picture.plan(), plan)
        self.assertEqual(picture.field().rows(), [[1, 2, 3, 4]])
        self.assertEqual(picture.numbers().rows(), [[10, -4, -1, -1]])
        self.assertEqual(picture.deeds(), 0)
        self.assertIsInstance(picture.field(), Field)
        self.assertIsInstance(picture.numbers(), Field)

    def test_every_plan(self):
        chance = random.Random(60)
        for plan in told_plans():
            rows = some_rows(chance, plan.height(), plan.width(), MOST)
            self.assert_stands(Picture(plan, Field(rows)), rows, 0)

    def test_values_at_the_bounds(self):
        picture = Picture(Plan(1, 2, "half", "r"), Field([[MOST, -MOST]]))
        self.assertEqual(picture.numbers().rows(), [[0, 2 * MOST]])
        for rows, place in (([[MOST + 1, -MOST - 1]], (0, 0)), ([[MOST, -MOST - 1]], (0, 1))):
            assert_refused(self, TooGreat, {"place": place}, Picture, Plan(1, 2, "half", "r"), Field(rows))

    def test_refused_things(self):
        plan = Plan(2, 2, "lean", "b")
        for thing in wrong_things():
            if not isinstance(thing, Field):
                assert_refused(self, NoField, {"found": thing}, Picture, plan, thing)
        for rows in ([[1]], [[1, 2]], [[1], [2]], [[1, 2, 3]] * 2, [[10 ** 14] * 2] * 3):
            fields = {"one": (2, 2), "other": (len(rows), len(rows[0]))}
            assert_refused(self, Unlike, fields, Picture, plan, Field(rows))
        assert_refused(self, TooGreat, {"place": (1, 0)}, Picture, plan, Field([[1, 2], [10 ** 14, 10 ** 14]]))


class PutTest(Base):
    def test_by_hand(self):
        picture = Picture(Plan(1, 4, "sum", "rr"), Field([[1, 2, 3, 4]]))
        self.assertEqual(picture.put((0, 3), 6), [((0, 0), 10, 12), ((0, 1), -4, -6), ((0, 3), -1, -3)])
        self.assert_stands(picture, [[1, 2, 3, 6]], 1)
        picture = Picture(Plan(1, 4, "half", "rr"), Field([[1, 2, 3, 4]]))
        self.assertEqual(picture.numbers().rows(), [[2, -2, -1, -1]])
        self.assertEqual(picture.put((0, 3), 5), [((0, 1), -2, -3), ((0, 3), -1, -2)])
        self.assert_stands(picture, [[1, 2, 3, 5]], 1)

    def test_changes_stand_in_the_plans_order(self):
        picture = Picture(Plan(3, 3, "sum", "b"), Field([[0] * 3] * 3))
        self.assertEqual(picture.put((0, 0), 1), [((0, 0), 0, 1), ((0, 2), 0, 1), ((2, 0), 0, 1), ((2, 2), 0, 1)])
        picture = Picture(Plan(3, 3, "sum", "pr"), Field([[0] * 3] * 3))
        self.assertEqual(picture.put((0, 1), 1), [((0, 0), 0, 1), ((0, 2), 0, -1), ((2, 1), 0, 1)])
        picture = Picture(Plan(3, 3, "guess", "rp"), Field([[0] * 3] * 3))
        self.assertEqual([place for place, before, behind in picture.put((0, 2), 100)],
                         [place for place in [(0, 0), (0, 1), (1, 0), (1, 1), (2, 0), (2, 1), (0, 2), (1, 2), (2, 2)]
                          if halved(picture.plan(), picture.field()).at(place) != 0])

    def test_the_same_value_is_a_deed_without_changes(self):
        for word in words():
            picture = Picture(Plan(2, 2, word, "b"), Field([[1, 2], [3, 4]]))
            self.assertEqual(picture.put((1, 0), 3), [])
            self.assert_stands(picture, [[1, 2], [3, 4]], 1)
            self.assertEqual(picture.undo(), [])
            self.assert_stands(picture, [[1, 2], [3, 4]], 0)

    def test_values_at_the_bounds(self):
        picture = Picture(Plan(1, 2, "sum", "r"), Field([[0, 0]]))
        self.assertEqual(picture.put((0, 0), MOST), [((0, 0), 0, MOST), ((0, 1), 0, MOST)])
        self.assertEqual(picture.put((0, 1), -MOST), [((0, 0), MOST, 0), ((0, 1), MOST, 2 * MOST)])
        for value in (MOST + 1, -MOST - 1):
            assert_refused(self, NoNumber, {"found": value}, put, picture, (0, 1), value)
        self.assert_stands(picture, [[MOST, -MOST]], 2)

    def test_changes_are_all_and_hang_on_the_place(self):
        chance = random.Random(61)
        for plan in list(some_plans(chance, 80, 9)):
            picture = some_picture(chance, plan, 300)
            before, place = picture.numbers(), chance.choice(picture.field().places())
            changes = picture.put(place, chance.randint(-MOST, MOST))
            self.assert_changes(plan, changes, before, picture.numbers())
            for changed, one, other in changes:
                self.assertIn(place, hangs(plan, changed))

    def test_refused_places_ahead_of_values(self):
        picture = Picture(Plan(2, 3, "guess", "b"), Field([[1, 2, 3], [4, 5, 6]]))
        for thing in wrong_things() + [(2, 0), (0, 3), (-1, 0), [1, 1], (1, True)]:
            if not is_place_of(thing, 2, 3):
                for value in (0, None, MOST + 1, thing):
                    assert_refused(self, NoPlace, {"found": thing}, put, picture, thing, value)
            if not is_plain_whole(thing) or abs(thing) > MOST:
                assert_refused(self, NoNumber, {"found": thing}, put, picture, (1, 2), thing)
        self.assert_stands(picture, [[1, 2, 3], [4, 5, 6]], 0)


class AddTest(Base):
    def test_by_hand(self):
        picture = Picture(Plan(1, 4, "sum", "rr"), Field([[1, 2, 3, 4]]))
        self.assertEqual(picture.add(Field([[1, 1, 0, -5]])),
                         [((0, 0), 10, 7), ((0, 1), -4, 3), ((0, 3), -1, 4)])
        self.assert_stands(picture, [[2, 3, 3, -1]], 1)

    def test_nothing_added_is_a_deed_without_changes(self):
        picture = Picture(Plan(2, 2, "lean", "b"), Field([[1, 2], [3, 4]]))
        self.assertEqual(picture.add(Field([[0, 0], [0, 0]])), [])
        self.assert_stands(picture, [[1, 2], [3, 4]], 1)

    def test_by_sum_the_changes_are_the_added_fields_own_numbers(self):
        chance = random.Random(62)
        for plan in told_plans()[::4] + [plan for plan in some_plans(chance, 80, 12) if plan.rule().word() == "sum"]:
            self.assertEqual(plan.rule().word(), "sum")
            picture = some_picture(chance, plan, MOST // 2)
            more = Field(some_rows(chance, plan.height(), plan.width(), chance.choice((1, MOST // 2))))
            numbers = halved(plan, more)
            self.assertEqual([(place, behind - before) for place, before, behind in picture.add(more)],
                             [(place, numbers.at(place)) for place in plan.order() if numbers.at(place) != 0])

    def test_changes_of_every_rule(self):
        chance = random.Random(63)
        for plan in some_plans(chance, 80, 9):
            picture = some_picture(chance, plan, 300)
            before, rows = picture.numbers(), picture.field().rows()
            more = some_rows(chance, plan.height(), plan.width(), 300)
            changes = picture.add(Field(more))
            self.assert_stands(picture, [[a + b for a, b in zip(*pair)] for pair in zip(rows, more)], 1)
            self.assert_changes(plan, changes, before, picture.numbers())

    def test_sums_at_the_bounds_and_one_beyond(self):
        for sign in (1, -1):
            picture = Picture(Plan(2, 2, "half", "b"), Field([[0, sign * MOST], [sign * 5, 0]]))
            picture.add(Field([[sign * MOST, 0], [-sign * (MOST + 5), sign * -MOST]]))
            rows = [[sign * MOST, sign * MOST], [-sign * MOST, -sign * MOST]]
            self.assert_stands(picture, rows, 1)
            for y, x, more in ((0, 0, 1), (0, 1, 1), (1, 0, -1), (1, 1, -1)):
                field = Field([[0, 0], [0, 0]]).with_number((y, x), more * sign)
                assert_refused(self, TooGreat, {"place": (y, x)}, add, picture, field)
                assert_refused(self, TooGreat, {"place": (y, x)}, add, picture,
                               field.with_number((1, 1), -sign * 10 ** 14 + (more * sign if (y, x) == (1, 1) else 0)))
            self.assert_stands(picture, rows, 1)

    def test_an_added_field_may_be_no_picture(self):
        picture = Picture(Plan(1, 2, "sum", "r"), Field([[-MOST, 7]]))
        self.assertEqual(picture.add(Field([[2 * MOST, 0]])), [((0, 0), 7 - MOST, 7 + MOST),
                                                               ((0, 1), -MOST - 7, MOST - 7)])
        for great in (10 ** 15 - 1, 1 - 10 ** 15):
            assert_refused(self, TooGreat, {"place": (0, 0)}, add, picture, Field([[great, great]]))
            assert_refused(self, TooGreat, {"place": (0, 1)}, add, picture, Field([[-1, great]]))

    def test_refused_things(self):
        picture = Picture(Plan(2, 2, "sum", "b"), Field([[1, 2], [3, 4]]))
        for thing in wrong_things():
            if not isinstance(thing, Field):
                assert_refused(self, NoField, {"found": thing}, add, picture, thing)
        for rows in ([[1]], [[1, 2]], [[1], [2]], [[1, 2, 3]] * 2, [[10 ** 14] * 2] * 3):
            assert_refused(self, Unlike, {"one": (2, 2), "other": (len(rows), len(rows[0]))}, add, picture, Field(rows))
        self.assert_stands(picture, [[1, 2], [3, 4]], 0)


class UndoTest(Base):
    def test_by_hand(self):
        picture = Picture(Plan(1, 2, "sum", "r"), Field([[5, 2]]))
        picture.put((0, 0), 6)
        picture.add(Field([[0, 1]]))
        self.assert_stands(picture, [[6, 3]], 2)
        self.assertEqual(picture.undo(), [((0, 0), 9, 8), ((0, 1), 3, 4)])
        self.assert_stands(picture, [[6, 2]], 1)
        self.assertEqual(picture.undo(), [((0, 0), 8, 7), ((0, 1), 4, 3)])
        self.assert_stands(picture, [[5, 2]], 0)

    def test_nothing_to_undo(self):
        picture = Picture(Plan(1, 2, "sum", "r"), Field([[5, 2]]))
        assert_refused(self, NoDeed, {"found": "undo"}, undo, picture)
        picture.put((0, 0), 5)
        picture.undo()
        assert_refused(self, NoDeed, {"found": "undo"}, undo, picture)
        self.assert_stands(picture, [[5, 2]], 0)

    def test_what_is_undone_does_not_come_again(self):
        picture = Picture(Plan(1, 2, "half", "r"), Field([[5, 2]]))
        picture.put((0, 0), 9)
        picture.undo()
        picture.put((0, 1), 3)
        picture.undo()
        self.assert_stands(picture, [[5, 2]], 0)

    def test_refused_deeds_do_not_stand(self):
        picture = Picture(Plan(1, 2, "half", "r"), Field([[5, 2]]))
        picture.put((0, 0), 9)
        assert_refused(self, NoPlace, {"found": (0, 2)}, put, picture, (0, 2), 1)
        assert_refused(self, NoNumber, {"found": True}, put, picture, (0, 1), True)
        assert_refused(self, TooGreat, {"place": (0, 0)}, add, picture, Field([[MOST, 0]]))
        self.assertEqual(picture.deeds(), 1)
        picture.undo()
        self.assert_stands(picture, [[5, 2]], 0)

    def test_two_hundred_deeds_and_all_undone(self):
        chance = random.Random(64)
        for word in words():
            plan = Plan(3, 5, word, "br")
            picture = some_picture(chance, plan, 50)
            fields, told = [picture.field().rows()], []
            for time in range(200):
                place = chance.choice(picture.field().places())
                if time & 1:
                    told.append(picture.put(place, chance.randint(-50, 50)))
                else:
                    told.append(picture.add(Field(some_rows(chance, 3, 5, 2))))
                fields.append(picture.field().rows())
            while told:
                self.assert_stands(picture, fields.pop(), len(told))
                self.assertEqual(picture.undo(), exchanged(told.pop()))
            self.assert_stands(picture, fields.pop(), 0)


class FollowedTest(Base):
    def test_whoever_follows_the_changes_has_the_numbers(self):
        chance = random.Random(65)
        for plan in list(some_plans(chance, 40, 8)):
            picture = some_picture(chance, plan, 40)
            kept = {place: picture.numbers().at(place) for place in picture.numbers().places()}
            for time in range(25):
                for place, before, behind in some_deed(chance, picture):
                    self.assertEqual(kept[place], before)
                    self.assertNotEqual(before, behind)
                    kept[place] = behind
                self.assertEqual([kept[place] for place in picture.numbers().places()], picture.numbers().flat())
                self.assertTrue(picture.numbers().same(halved(plan, picture.field())))

    def test_fields_told_ahead_stay(self):
        picture = Picture(Plan(1, 2, "sum", "r"), Field([[5, 2]]))
        field, numbers = picture.field(), picture.numbers()
        picture.put((0, 0), 50)
        picture.add(Field([[1, 1]]))
        self.assertEqual((field.rows(), numbers.rows()), ([[5, 2]], [[7, 3]]))
        self.assertEqual((picture.field().rows(), picture.numbers().rows()), ([[51, 3]], [[54, 48]]))
        picture.undo()
        self.assertEqual((picture.field().rows(), picture.numbers().rows()), ([[50, 2]], [[52, 48]]))


class CopiedTest(Base):
    def test_a_copy_goes_its_own_way(self):
        picture = Picture(Plan(1, 2, "sum", "r"), Field([[5, 2]]))
        picture.put((0, 0), 6)
        other = picture.copied()
        self.assertIsInstance(other, Picture)
        self.assertIs(other.plan(), picture.plan())
        self.assert_stands(other, [[6, 2]], 1)
        other.put((0, 1), 9)
        self.assert_stands(picture, [[6, 2]], 1)
        picture.undo()
        self.assert_stands(other, [[6, 9]], 2)
        self.assertEqual(other.undo(), [((0, 0), 15, 8), ((0, 1), -3, 4)])
        self.assertEqual(other.undo(), [((0, 0), 8, 7), ((0, 1), 4, 3)])
        self.assert_stands(other, [[5, 2]], 0)
        assert_refused(self, NoDeed, {"found": "undo"}, undo, picture)
        picture.put((0, 0), 1)
        self.assert_stands(other, [[5, 2]], 0)

    def test_copies_of_many_deeds(self):
        chance = random.Random(66)
        for plan in some_plans(chance, 30, 7):
            picture = some_picture(chance, plan, 40)
            for time in range(10):
                some_deed(chance, picture)
            before, other = shown(picture), picture.copied()
            self.assertEqual(shown(other), before)
            for time in range(10):
                some_deed(chance, other)
            self.assertEqual(shown(picture), before)
            kept = shown(other)
            while picture.deeds() > 0:
                picture.undo()
            self.assertEqual(shown(other), kept)


class NothingInCommonTest(Base):
    def test_lists_handed_in_or_told_change_nothing(self):
        rows = [[1, 2], [3, 4]]
        plan, field = Plan(2, 2, "lean", "b"), Field(rows)
        picture, other = Picture(plan, field), Picture(plan, field)
        rows[0][0] = 99
        more = [[1, 0], [0, 0]]
        changes = picture.add(Field(more))
        more[0][0] = 50
        due = list(changes)
        changes.clear()
        self.assertEqual(picture.undo(), exchanged(due))
        picture.field().rows()[0].clear()
        picture.numbers().rows().clear()
        picture.put((0, 0), 77)
        self.assert_stands(other, [[1, 2], [3, 4]], 0)
        self.assertEqual(field.rows(), [[1, 2], [3, 4]])

    def test_asking_changes_nothing(self):
        picture = Picture(Plan(2, 2, "lean", "b"), Field([[1, 2], [3, 4]]))
        picture.put((0, 1), 8)
        before = shown(picture)
        for asked in (picture.plan, picture.field, picture.numbers, picture.deeds, picture.copied):
            self.assertEqual(shown(asked()), shown(asked()))
        self.assertEqual(shown(picture), before)


if __name__ == "__main__":
    unittest.main()
