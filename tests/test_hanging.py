"""On what numbers and places hang, and what a coarse number stands for [42] [43] [44], *Few* and *Shares* [6]."""

import random
import unittest

from halvedpictures.errors import NoPlace, NoStep
from halvedpictures.fields import Field
from halvedpictures.halving import halved, put_back
from halvedpictures.hanging import hangs, needs, share
from halvedpictures.lifted import words
from halvedpictures.plans import Plan
from tests.helper import (
    Hung, assert_refused, back_as_written, back_in_place, halved_in_place, halves_as_written, is_place_of,
    is_plain_whole, shown, some_plans, some_rows, told_plans, wrong_things)


def all_places(plan):
    return [(y, x) for y in range(plan.height()) for x in range(plan.width())]


def row_places(*pillars):
    return [(0, x) for x in pillars]


def plans_of_chance(seed, times, most):
    chance = random.Random(seed)
    for plan in some_plans(chance, times, most):
        yield chance, plan


class HangsTest(unittest.TestCase):
    def test_pairs_by_hand(self):
        for word in ("sum", "half"):
            plan = Plan(1, 4, word, "rr")
            self.assertEqual(hangs(plan, (0, 0)), row_places(0, 1, 2, 3))
            self.assertEqual(hangs(plan, (0, 1)), row_places(0, 1, 2, 3))
            self.assertEqual(hangs(plan, (0, 2)), row_places(0, 1))
            self.assertEqual(hangs(plan, (0, 3)), row_places(2, 3))
            plan = Plan(3, 3, word, "b")
            self.assertEqual(hangs(plan, (0, 0)), [(0, 0), (0, 1), (1, 0), (1, 1)])
            self.assertEqual(hangs(plan, (2, 2)), [(0, 0), (0, 1), (1, 0), (1, 1)])
            self.assertEqual(hangs(plan, (0, 1)), [(0, 2), (1, 2)])
            self.assertEqual(hangs(plan, (2, 1)), [(0, 2), (1, 2)])
            self.assertEqual(hangs(plan, (1, 2)), [(2, 0), (2, 1)])
            self.assertEqual(hangs(plan, (1, 1)), [(2, 2)])

    def test_guess_and_lean_by_hand(self):
        plan = Plan(1, 5, "guess", "rr")
        self.assertEqual([hangs(plan, (0, x)) for x in range(5)], [
            row_places(0, 1, 2, 3, 4), row_places(0, 1, 2, 3, 4), row_places(0, 1, 2, 3, 4),
            row_places(0, 1, 2), row_places(2, 3, 4)])
        plan = Plan(5, 1, "lean", "p")
        self.assertEqual([hangs(plan, (y, 0)) for y in range(5)], [
            [(0, 0), (1, 0)], [(2, 0), (3, 0)], [(4, 0)], [(0, 0), (1, 0), (2, 0), (3, 0)],
            [(0, 0), (1, 0), (2, 0), (3, 0), (4, 0)]])
        plan = Plan(3, 3, "lean", "b")
        self.assertEqual(hangs(plan, (2, 2)), all_places(plan))
        self.assertEqual(hangs(plan, (2, 0)), [(0, 0), (0, 1), (1, 0), (1, 1), (2, 0), (2, 1)])
        self.assertEqual(hangs(plan, (1, 1)), [(2, 2)])

    def test_a_step_along_pillars_by_hand(self):
        plan = Plan(4, 2, "sum", "pr")
        self.assertEqual(hangs(plan, (2, 1)), [(0, 1), (1, 1)])
        self.assertEqual(hangs(plan, (1, 1)), [(2, 0), (2, 1), (3, 0), (3, 1)])
        plan = Plan(4, 2, "sum", "rp")
        self.assertEqual(hangs(plan, (2, 1)), [(2, 0), (2, 1)])
        self.assertEqual(hangs(plan, (2, 0)), [(0, 0), (0, 1), (1, 0), (1, 1)])

    def test_without_steps_a_place_alone(self):
        for word in words():
            plan = Plan(2, 3, word, "")
            for place in all_places(plan):
                self.assertEqual(hangs(plan, place), [place])
                self.assertEqual(needs(plan, place), [place])

    def test_all_go_by_the_rules_as_they_are_written(self):
        for plan in told_plans() + list(some_plans(random.Random(43), 120, 16)):
            cells = {place: Hung(place) for place in all_places(plan)}
            due = halved_in_place(plan, cells, plan.steps(), halves_as_written)
            for place in all_places(plan)[::1 + len(cells) // 40]:
                self.assertEqual(hangs(plan, place), sorted(due[place].places), (shown(plan), place))

    def test_pictures_alike_there_have_the_same_number(self):
        for chance, plan in plans_of_chance(44, 200, 12):
            place = chance.choice(all_places(plan))
            picture = Field(some_rows(chance, plan.height(), plan.width(), 500))
            rows = some_rows(chance, plan.height(), plan.width(), 500)
            for y, x in hangs(plan, place):
                rows[y][x] = picture.at((y, x))
            self.assertEqual(halved(plan, picture).at(place), halved(plan, Field(rows)).at(place))

    def test_another_value_changes_no_number_that_does_not_hang_on_it(self):
        for chance, plan in plans_of_chance(45, 100, 9):
            picture = Field(some_rows(chance, plan.height(), plan.width(), 500))
            place = chance.choice(all_places(plan))
            before, behind = halved(plan, picture), halved(plan, picture.with_number(place, 90000))
            for number in all_places(plan):
                if before.at(number) != behind.at(number):
                    self.assertIn(place, hangs(plan, number))


class NeedsTest(unittest.TestCase):
    def test_pairs_by_hand(self):
        for word in ("sum", "half"):
            plan = Plan(1, 4, word, "rr")
            self.assertEqual([needs(plan, (0, x)) for x in range(4)], [
                row_places(0, 1, 2), row_places(0, 1, 2), row_places(0, 1, 3), row_places(0, 1, 3)])
            plan = Plan(3, 3, word, "b")
            self.assertEqual(needs(plan, (0, 0)), [(0, 0), (0, 2), (2, 0), (2, 2)])
            self.assertEqual(needs(plan, (1, 2)), [(0, 1), (2, 1)])
            self.assertEqual(needs(plan, (2, 0)), [(1, 0), (1, 2)])
            self.assertEqual(needs(plan, (2, 2)), [(1, 1)])

    def test_guess_and_lean_by_hand(self):
        plan = Plan(1, 5, "guess", "rr")
        self.assertEqual(needs(plan, (0, 0)), row_places(0, 2, 3))
        self.assertEqual(needs(plan, (0, 3)), row_places(0, 1, 2, 3, 4))
        self.assertEqual(needs(plan, (0, 4)), row_places(1, 2, 4))
        plan = Plan(5, 1, "lean", "p")
        self.assertEqual([needs(plan, (y, 0)) for y in (1, 2, 4)],
                         [[(0, 0), (1, 0), (3, 0)], [(0, 0), (1, 0), (2, 0), (4, 0)], [(2, 0)]])
        plan = Plan(3, 3, "lean", "b")
        self.assertEqual(needs(plan, (0, 0)), all_places(plan))
        self.assertEqual(needs(plan, (0, 2)), [(0, 1), (1, 1), (2, 1)])

    def test_a_step_along_pillars_by_hand(self):
        plan = Plan(4, 2, "sum", "pr")
        self.assertEqual(needs(plan, (3, 1)), [(1, 0), (1, 1), (3, 1)])
        plan = Plan(4, 2, "sum", "rp")
        self.assertEqual(needs(plan, (3, 1)), [(1, 0), (3, 0), (3, 1)])

    def test_all_go_by_the_rules_as_they_are_written(self):
        for plan in told_plans() + list(some_plans(random.Random(46), 120, 16)):
            cells = {place: Hung(place) for place in all_places(plan)}
            due = back_in_place(plan, cells, 0, back_as_written)
            for place in all_places(plan)[::1 + len(cells) // 40]:
                self.assertEqual(needs(plan, place), sorted(due[place].places), (shown(plan), place))

    def test_numbers_alike_there_put_back_the_same_value(self):
        for chance, plan in plans_of_chance(47, 200, 12):
            place = chance.choice(all_places(plan))
            numbers = Field(some_rows(chance, plan.height(), plan.width(), 10 ** 9))
            rows = some_rows(chance, plan.height(), plan.width(), 10 ** 9)
            for y, x in needs(plan, place):
                rows[y][x] = numbers.at((y, x))
            self.assertEqual(put_back(plan, numbers).at(place), put_back(plan, Field(rows)).at(place))


def shares_by_counting(plan, step):
    """For each place of the corner ahead of a step how often each place counts: all of it carried forth."""
    def halves(word, row):
        sums = [pair for pair in zip(row[0::2], row[1::2])]
        sums = [{place: one.get(place, 0) + other.get(place, 0) for place in one | other} for one, other in sums]
        sums += [{place: 2 * many for place, many in one.items()} for one in row[2 * len(sums):]]
        return sums, [{} for pair in range(len(row) // 2)]
    cells = {place: {place: 1} for place in all_places(plan)}
    height, width = plan.corner(step)
    cells = halved_in_place(plan, cells, step, halves)
    return {(y, x): cells[y, x] for y in range(height) for x in range(width)}


class ShareTest(unittest.TestCase):
    def test_by_hand(self):
        for word in words():
            plan = Plan(3, 3, word, "b")
            self.assertEqual(share(plan, 0, (2, 1)), [((2, 1), 1)])
            self.assertEqual(share(plan, 1, (0, 0)), [((0, 0), 1), ((0, 1), 1), ((1, 0), 1), ((1, 1), 1)])
            self.assertEqual(share(plan, 1, (0, 1)), [((0, 2), 2), ((1, 2), 2)])
            self.assertEqual(share(plan, 1, (1, 0)), [((2, 0), 2), ((2, 1), 2)])
            self.assertEqual(share(plan, 1, (1, 1)), [((2, 2), 4)])
            plan = Plan(1, 5, word, "rrr")
            self.assertEqual(share(plan, 1, (0, 2)), [((0, 4), 2)])
            self.assertEqual(share(plan, 2, (0, 1)), [((0, 4), 4)])
            self.assertEqual(share(plan, 3, (0, 0)), [((0, 0), 1), ((0, 1), 1), ((0, 2), 1), ((0, 3), 1), ((0, 4), 4)])
            plan = Plan(3, 2, word, "pr")
            self.assertEqual(share(plan, 1, (1, 1)), [((2, 1), 2)])
            self.assertEqual(share(plan, 2, (1, 0)), [((2, 0), 2), ((2, 1), 2)])
            self.assertEqual(share(plan, 2, (0, 0)), [((0, 0), 1), ((0, 1), 1), ((1, 0), 1), ((1, 1), 1)])
            self.assertEqual(share(Plan(2, 2, word, ""), 0, (1, 0)), [((1, 0), 1)])

    def test_all_shares_by_counting(self):
        for plan in told_plans()[::4] + list(some_plans(random.Random(48), 60, 20)):
            for step in range(plan.steps() + 1):
                singles = sum(2 if letter == "b" else 1 for letter in plan.way()[:step])
                for place, due in shares_by_counting(plan, step).items():
                    told = share(plan, step, place)
                    self.assertEqual(told, sorted(due.items()), (shown(plan), step, place))
                    self.assertEqual(sum(copies for one, copies in told), 2 ** singles)

    def test_coarse_numbers_are_the_sums_of_their_shares_or_near_them(self):
        for chance, plan in plans_of_chance(49, 250, 14):
            word = plan.rule().word()
            if word == "guess":
                continue
            picture = Field(some_rows(chance, plan.height(), plan.width(), chance.choice((2, 10 ** 5))))
            for step in range(plan.steps() + 1):
                numbers = halved(Plan(plan.height(), plan.width(), word, plan.way()[:step]), picture)
                singles = sum(2 if letter == "b" else 1 for letter in plan.way()[:step])
                height, width = plan.corner(step)
                for place in [(y, x) for y in range(height) for x in range(width)]:
                    total = sum(picture.at(one) * copies for one, copies in share(plan, step, place))
                    above = total - numbers.at(place) * (1 if word == "sum" else 2 ** singles)
                    self.assertGreaterEqual(above, 0)
                    self.assertLessEqual(above, 0 if word == "sum" else singles * 2 ** singles // 2)


class RefusedTest(unittest.TestCase):
    def test_no_places_of_the_picture(self):
        for way in ("", "b", "bb", "pr"):
            plan = Plan(3, 4, "guess", way)
            for thing in wrong_things() + [(3, 0), (0, 4), (2, 3), (-1, -1), [0, 0], (0, True)]:
                for told in (hangs, needs):
                    if is_place_of(thing, 3, 4):
                        self.assertIsInstance(told(plan, thing), list)
                    else:
                        assert_refused(self, NoPlace, {"found": thing}, told, plan, thing)

    def test_steps_ahead_of_places(self):
        plan = Plan(3, 4, "half", "br")
        for thing in wrong_things() + [2, 3, -1]:
            if is_plain_whole(thing) and 0 <= thing <= 2:
                self.assertIsInstance(share(plan, thing, (0, 0)), list)
                continue
            for place in ((0, 0), (2, 3), (9, 9), None, thing):
                assert_refused(self, NoStep, {"found": thing}, share, plan, thing, place)

    def test_places_of_the_corner(self):
        for way, sizes in (("br", [(3, 4), (2, 2), (2, 1)]), ("", [(3, 4)])):
            plan = Plan(3, 4, "half", way)
            for step, (height, width) in enumerate(sizes):
                for thing in wrong_things() + [(height - 1, width - 1), (height, 0), (0, width), (height - 1, width)]:
                    if is_place_of(thing, height, width):
                        self.assertIsInstance(share(plan, step, thing), list)
                    else:
                        assert_refused(self, NoPlace, {"found": thing}, share, plan, step, thing)


class NewListsTest(unittest.TestCase):
    def test_told_lists_are_the_askers_own(self):
        plan = Plan(3, 3, "lean", "bb")
        before = shown(plan)
        for asked in (lambda: hangs(plan, (0, 2)), lambda: needs(plan, (0, 2)), lambda: share(plan, 1, (0, 0))):
            told = asked()
            kept = list(told)
            told.clear()
            self.assertEqual(asked(), kept)
        self.assertEqual(shown(plan), before)
        self.assertEqual(hangs(Plan(3, 3, "lean", "bb"), (0, 2)), hangs(plan, (0, 2)))


if __name__ == "__main__":
    unittest.main()
