"""Plans: corners, parts, order and halvings [30] to [34]."""

import random
import unittest

from halvedpictures.errors import NoPlace, NoRule, NoSize, NoStep, NoWay
from halvedpictures.lifted import rule_of, words
from halvedpictures.plans import Plan
from tests.helper import assert_refused, is_place_of, is_plain_whole, shown, some_plans, wrong_things


class MadeTest(unittest.TestCase):
    def test_a_plan_tells_what_it_was_made_of(self):
        plan = Plan(5, 7, "half", "rpb")
        self.assertEqual((plan.height(), plan.width(), plan.way(), plan.steps()), (5, 7, "rpb", 3))
        for word in words():
            self.assertIs(Plan(3, 4, word, "b").rule().__class__, rule_of(word).__class__)
            self.assertEqual(Plan(3, 4, word, "b").rule().word(), word)

    def test_every_size_is_made_or_refused(self):
        for height in range(-1, 67):
            for width in range(-1, 67):
                if 1 <= height <= 64 and 1 <= width <= 64 and height * width <= 512:
                    plan = Plan(height, width, "sum", "")
                    self.assertEqual((plan.height(), plan.width(), plan.steps()), (height, width, 0))
                else:
                    assert_refused(self, NoSize, {"one": height, "other": width}, Plan, height, width, "sum", "")

    def test_ways_go_as_far_as_the_corner_does(self):
        for height, width, way in ((1, 1, ""), (1, 2, "r"), (2, 1, "p"), (2, 2, "b"), (2, 2, "rp"), (2, 2, "pr"),
                                   (64, 8, "bbbppp"), (1, 64, "rrrrrr"), (64, 1, "pppppp"), (3, 3, "bb"),
                                   (1, 33, "rrrrrr"), (17, 30, "rrrrrppppp"), (22, 23, "bbbbb")):
            plan = Plan(height, width, "lean", way)
            self.assertEqual(plan.corner(plan.steps()), (1, 1))
            for letter in "rpb":
                longer = way + letter
                assert_refused(self, NoWay, {"found": longer}, Plan, height, width, "lean", longer)

    def test_a_step_needs_two_pillars_or_rows(self):
        for height, width, way in ((1, 1, "r"), (1, 1, "p"), (1, 1, "b"), (5, 1, "r"), (5, 1, "b"), (1, 5, "p"),
                                   (1, 5, "b"), (2, 3, "pb"), (2, 3, "pp"), (3, 2, "rb"), (3, 2, "rr"),
                                   (2, 4, "bp"), (4, 2, "br"), (2, 4, "bb"), (3, 2, "rppr")):
            assert_refused(self, NoWay, {"found": way}, Plan, height, width, "sum", way)

    def test_ways_of_other_letters(self):
        for way in ("x", "R", "P", "B", "-", " ", "r ", " r", "r\n", "rx", "xr", "rp b", "1", "rb;", "q" * 300):
            assert_refused(self, NoWay, {"found": way}, Plan, 8, 8, "guess", way)

    def test_things_that_are_no_sizes(self):
        for thing in wrong_things():
            if is_plain_whole(thing) and 1 <= thing <= 64:
                continue
            for height, width in ((thing, 2), (2, thing), (thing, thing)):
                for word, way in (("sum", "r"), ("none", "r"), ("sum", "zz"), (thing, thing)):
                    assert_refused(self, NoSize, {"one": height, "other": width}, Plan, height, width, word, way)

    def test_things_that_are_no_words(self):
        for thing in wrong_things():
            if isinstance(thing, str) and thing in words():
                continue
            for way in ("b", "zz", "bbbb", None, thing):
                assert_refused(self, NoRule, {"found": thing}, Plan, 2, 2, thing, way)

    def test_things_that_are_no_ways(self):
        for thing in wrong_things() + [["r"], ("r", "p"), {"r": "p"}, b"r"]:
            if isinstance(thing, str) and set(thing) <= set("rpb"):
                self.assertEqual(Plan(8, 8, "half", thing).way(), thing)
            else:
                assert_refused(self, NoWay, {"found": thing}, Plan, 8, 8, "half", thing)

    def test_very_long_ways_are_refused(self):
        way = "r" * 20000
        assert_refused(self, NoWay, {"found": way}, Plan, 8, 64, "half", way)


class CornerTest(unittest.TestCase):
    def test_corners_by_hand(self):
        plan = Plan(5, 7, "sum", "rpb")
        self.assertEqual([plan.corner(step) for step in range(4)], [(5, 7), (5, 4), (3, 4), (2, 2)])
        plan = Plan(64, 8, "guess", "bbbp")
        self.assertEqual([plan.corner(step) for step in range(5)], [(64, 8), (32, 4), (16, 2), (8, 1), (4, 1)])
        self.assertEqual(Plan(1, 1, "sum", "").corner(0), (1, 1))
        self.assertIs(plan.corner(0).__class__, tuple)

    def test_whatever_else_is_no_step(self):
        plan = Plan(4, 4, "lean", "bb")
        for thing in wrong_things() + [3, 2 ** 40]:
            if is_plain_whole(thing) and 0 <= thing <= 2:
                self.assertEqual(plan.corner(thing), [(4, 4), (2, 2), (1, 1)][thing])
            else:
                assert_refused(self, NoStep, {"found": thing}, plan.corner, thing)
        bare = Plan(4, 4, "lean", "")
        assert_refused(self, NoStep, {"found": 1}, bare.corner, 1)
        assert_refused(self, NoStep, {"found": -1}, bare.corner, -1)


class PartsTest(unittest.TestCase):
    def test_parts_by_hand(self):
        self.assertEqual(Plan(5, 7, "sum", "rpb").parts(), [
            (3, "coarse", 0, 0, 2, 2),
            (2, "row", 0, 2, 2, 2), (2, "pillar", 2, 0, 1, 2), (2, "both", 2, 2, 1, 2),
            (1, "pillar", 3, 0, 2, 4),
            (0, "row", 0, 4, 5, 3)])
        self.assertEqual(Plan(3, 5, "half", "b").parts(), [
            (1, "coarse", 0, 0, 2, 3), (0, "row", 0, 3, 2, 2), (0, "pillar", 2, 0, 1, 3), (0, "both", 2, 3, 1, 2)])
        self.assertEqual(Plan(1, 4, "guess", "rr").parts(),
                         [(2, "coarse", 0, 0, 1, 1), (1, "row", 0, 1, 1, 1), (0, "row", 0, 2, 1, 2)])
        self.assertEqual(Plan(3, 4, "lean", "").parts(), [(0, "coarse", 0, 0, 3, 4)])

    def test_order_by_hand(self):
        self.assertEqual(Plan(3, 3, "sum", "b").order(), [
            (0, 0), (0, 1), (1, 0), (1, 1), (0, 2), (1, 2), (2, 0), (2, 1), (2, 2)])
        self.assertEqual(Plan(2, 3, "sum", "rp").order(), [(0, 0), (0, 1), (1, 0), (1, 1), (0, 2), (1, 2)])
        self.assertEqual(Plan(2, 2, "sum", "").order(), [(0, 0), (0, 1), (1, 0), (1, 1)])

    def test_parts_and_order_of_many_plans(self):
        for plan in some_plans(random.Random(5), 150, 64):
            parts = plan.parts()
            places = []
            for step, word, top, left, height, width in parts:
                self.assertGreater(height * width, 0)
                places += [(y, x) for y in range(top, top + height) for x in range(left, left + width)]
            self.assertEqual(plan.order(), places)
            self.assertEqual(sorted(places), [(y, x) for y in range(plan.height()) for x in range(plan.width())])
            due = [(plan.steps(), "coarse")]
            for step, letter in reversed(list(enumerate(plan.way()))):
                due += [(step, word) for word in {"r": ["row"], "p": ["pillar"], "b": ["row", "pillar", "both"]}[letter]]
            self.assertEqual([part[:2] for part in parts], due)

    def test_lists_told_are_new(self):
        plan = Plan(3, 3, "sum", "bb")
        for told in (plan.parts, plan.order):
            before = told()
            told().clear()
            told()[0] = None
            self.assertEqual(told(), before)
            self.assertIsNot(told(), told())


class HalvingsTest(unittest.TestCase):
    def test_halvings_by_hand(self):
        plan = Plan(5, 7, "sum", "rpb")
        due = [
            [4, 4, 4, 4, 1, 1, 1],
            [4, 4, 4, 4, 1, 1, 1],
            [4, 4, 4, 4, 1, 1, 1],
            [2, 2, 2, 2, 1, 1, 1],
            [2, 2, 2, 2, 1, 1, 1],
        ]
        self.assertEqual([[plan.halvings((y, x)) for x in range(7)] for y in range(5)], due)
        plan = Plan(4, 4, "sum", "bb")
        self.assertEqual([[plan.halvings((y, x)) for x in range(4)] for y in range(4)],
                         [[4, 4, 2, 2], [4, 4, 2, 2], [2, 2, 2, 2], [2, 2, 2, 2]])
        self.assertEqual(Plan(2, 2, "sum", "").halvings((1, 1)), 0)

    def test_halvings_of_many_plans_go_by_the_parts(self):
        for plan in some_plans(random.Random(6), 100, 64):
            singles = [2 if letter == "b" else 1 for letter in plan.way()]
            for step, word, top, left, height, width in plan.parts():
                for place in ((top, left), (top + height - 1, left + width - 1)):
                    self.assertEqual(plan.halvings(place), sum(singles[:step + 1]))

    def test_no_places(self):
        plan = Plan(3, 2, "half", "b")
        for thing in wrong_things() + [(3, 0), (0, 2), (-1, 0), (0, -1), (2, True), [2, 1]]:
            if is_place_of(thing, 3, 2):
                self.assertEqual(plan.halvings(thing), 2)
            else:
                assert_refused(self, NoPlace, {"found": thing}, plan.halvings, thing)


class UnchangedTest(unittest.TestCase):
    def test_nothing_that_is_asked_changes_a_plan(self):
        plan, other = Plan(5, 7, "lean", "bpr"), Plan(5, 7, "lean", "bpr")
        before = shown(plan)
        for deed in (plan.parts, plan.order, plan.rule, plan.way, plan.steps, plan.height, plan.width):
            self.assertEqual(shown(deed()), shown(deed()))
            self.assertEqual(shown(getattr(other, deed.__name__)()), shown(deed()))
        plan.corner(2)
        plan.halvings((0, 0))
        self.assertEqual(shown(plan), before)
        self.assertEqual(shown(other), before)


if __name__ == "__main__":
    unittest.main()
