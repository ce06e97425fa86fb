"""A desk of lines [102] to [105]."""

import random
import unittest

from halvedpictures.desk import Desk
from halvedpictures.errors import (
    BadSign, HalvedError, NoDeed, NoHead, NoLine, NoMany, NoNumber, NoPlace, NoRule, NoSize, NoSquares, NoStep, NoText,
    NoWay, TooGreat, Unlike)
from halvedpictures.fields import Field
from halvedpictures.fieldtexts import field_text, read_field
from halvedpictures.halving import coarse, halved, put_back
from halvedpictures.hanging import hangs, needs, share
from halvedpictures.leaving import left_out
from halvedpictures.lifted import words
from halvedpictures.noughts import compared, noughts
from halvedpictures.pictures import Picture
from halvedpictures.plans import Plan
from halvedpictures.readings import read_signs
from halvedpictures.rooms import kept, within
from halvedpictures.signs import signs
from halvedpictures.worst import greatest, worst
from tests.helper import (
    assert_refused, cells_of, check_as_written, head_as_written, row_as_written, shown, some_plans, some_rows,
    told_plans, wrong_things)

MOST = 10 ** 5
ASKING = ["picture", "numbers", "deeds", "noughts", "signs"]


def say(desk, line):
    return desk.say(line)


def desk_with(*lines):
    """A desk that was told these lines."""
    desk = Desk()
    for line in lines:
        desk.say(line)
    return desk


def plan_line(plan):
    return f"plan {plan.height()} {plan.width()} {plan.rule().word()} {plan.way() or '-'}"


def desk_of(plan, rows):
    """A desk with a Picture of this plan and these rows."""
    return desk_with(plan_line(plan), "field " + field_text(Field(rows)))


def list_of(rows):
    """Tuples, also with tuples in them, as a list is answered."""
    told = []
    for row in rows:
        flat = [one for part in row for one in (part if isinstance(part, tuple) else (part,))]
        told.append(" ".join(str(one) for one in flat))
    return "; ".join(told) or "-"


def some_line(chance, plan):
    """A line that does something, with as many right ones as wrong ones among them."""
    place = f"{chance.randint(0, plan.height())} {chance.randint(0, plan.width() - 1)}"
    rows = field_text(Field(some_rows(chance, plan.height(), plan.width(), chance.choice((3, MOST)))))
    return chance.choice([f"put {place} {chance.randint(-20, 20)}", f"put {place} {MOST + chance.randint(0, 1)}",
                          f"add {rows}", "undo", "undo", "undo", f"add {rows}; 1", "add ", "x", "undo ",
                          f"put {place}"])


class Base(unittest.TestCase):
    def assert_says(self, desk, *pairs):
        for line, due in pairs:
            told = desk.say(line)
            self.assertIsInstance(told, str)
            self.assertEqual(told, due, line)

    def refused(self, desk, refusal, fields, line):
        assert_refused(self, refusal, fields, say, desk, line)


class AtFirstTest(Base):
    def test_a_new_desk(self):
        self.assert_says(Desk(), ("picture", "0"), ("numbers", "0"), ("deeds", "0"), ("noughts", "0"),
                         ("coarse 0", "0"), ("signs", "halved 1 1 sum - 0 83:"), ("hangs 0 0", "0 0"),
                         ("needs 0 0", "0 0"), ("share 0 0 0", "0 0 1"), ("left 7", "0 | 0"), ("keep 0", "-"),
                         ("keep 1", "0 0"), ("within 0", "-"), ("compare -", "sum 0; half 0; guess 0; lean 0"))
        desk = Desk()
        self.refused(desk, NoDeed, {"found": "undo"}, "undo")
        self.assert_says(desk, ("put 0 0 5", "0 0 0 5"), ("picture", "5"), ("undo", "0 0 5 0"))


class DoingTest(Base):
    def test_by_hand(self):
        self.assert_says(
            Desk(), ("plan 1 4 sum rr", "ok"), ("picture", "0 0 0 0"), ("deeds", "0"), ("field 1 2 3 4", "ok"),
            ("numbers", "10 -4 -1 -1"), ("put 0 3 6", "0 0 10 12; 0 1 -4 -6; 0 3 -1 -3"), ("deeds", "1"),
            ("add 0 0 0 -6", "0 0 12 6; 0 1 -6 0; 0 3 -3 3"), ("picture", "1 2 3 0"), ("deeds", "2"),
            ("undo", "0 0 6 12; 0 1 0 -6; 0 3 3 -3"), ("deeds", "1"), ("put 0 1 2", "-"), ("deeds", "2"),
            ("add 0 0 0 0", "-"), ("deeds", "3"), ("undo", "-"), ("undo", "-"), ("picture", "1 2 3 6"),
            ("numbers", "12 -6 -1 -3"))

    def test_plans_and_fields_begin_anew(self):
        desk = desk_with("plan 2 2 half b", "field 1 2; 3 4", "put 0 0 9")
        # Behind the rows it is 5 -1; 7 -1, and then 6 -1; -2 0; with the 0 it is 5 -1; 3 7, and then 4 3; 2 -8.
        self.assert_says(desk, ("field 5 6; 7 8", "ok"), ("deeds", "0"), ("picture", "5 6; 7 8"),
                         ("put 1 1 0", "0 0 6 4; 0 1 -1 3; 1 0 -2 2; 1 1 0 -8"), ("deeds", "1"),
                         ("plan 2 2 half b", "ok"), ("deeds", "0"), ("picture", "0 0; 0 0"), ("plan 1 3 lean -", "ok"),
                         ("picture", "0 0 0"), ("signs", head_as_written(1, 3, "lean", "-", 0)))
        self.refused(desk, NoDeed, {"found": "undo"}, "undo")

    def test_take(self):
        row = "halved 1 4 sum rr 4 39:1+00028;11-0005;0101-12;001-146;"
        desk = desk_with("plan 2 2 half b", "field 1 2; 3 4", "put 0 0 9")
        self.assert_says(desk, ("take " + row, "ok"), ("picture", "1 2 3 6"), ("numbers", "12 -6 -1 -3"),
                         ("deeds", "0"), ("signs", row))
        # Of the first two planes 12 -4 0 0 is read: 4 8, and then 2 2 4 4.
        self.assert_says(desk, ("take " + row[:39], "ok"), ("picture", "2 2 4 4"), ("numbers", "12 -4 0 0"))
        self.assert_says(desk, ("take " + row[:23], "ok"), ("picture", "0 0 0 0"), ("deeds", "0"))
        # By sum such numbers come from no picture: (1 + 0) // 2 and 1 less it.
        self.assert_says(desk, ("take " + head_as_written(1, 2, "sum", "r", 1) + "1+0", "ok"), ("picture", "0 1"),
                         ("numbers", "1 -1"))

    def test_many_deeds_go_as_those_of_a_picture(self):
        chance = random.Random(160)
        for plan in some_plans(chance, 30, 6):
            rows = some_rows(chance, plan.height(), plan.width(), 9)
            desk, picture = desk_of(plan, rows), Picture(plan, Field(rows))
            for time in range(20):
                choice = chance.randrange(3)
                if choice == 0 and picture.deeds():
                    line, due = "undo", picture.undo()
                elif choice == 1:
                    more = Field(some_rows(chance, plan.height(), plan.width(), chance.choice((0, 9))))
                    line, due = "add " + field_text(more), picture.add(more)
                else:
                    (y, x), value = chance.choice(picture.field().places()), chance.randint(-9, 9)
                    line, due = f"put {y} {x} {value}", picture.put((y, x), value)
                self.assert_says(desk, (line, list_of(due)), ("picture", field_text(picture.field())),
                                 ("numbers", field_text(picture.numbers())), ("deeds", str(picture.deeds())))


class AskingTest(Base):
    def test_by_hand(self):
        desk = desk_with("plan 1 4 sum rr", "field 1 2 3 6")
        row = "halved 1 4 sum rr 4 39:1+00028;11-0005;0101-12;001-146;"
        self.assert_says(
            desk, ("picture", "1 2 3 6"), ("numbers", "12 -6 -1 -3"), ("deeds", "0"), ("coarse 0", "1 2 3 6"),
            ("coarse 1", "3 9"), ("coarse 2", "12"), ("hangs 0 0", "0 0; 0 1; 0 2; 0 3"), ("hangs 0 2", "0 0; 0 1"),
            ("needs 0 3", "0 0; 0 1; 0 3"), ("share 0 0 3", "0 3 1"), ("share 1 0 1", "0 2 1; 0 3 1"),
            ("share 2 0 0", "0 0 1; 0 1 1; 0 2 1; 0 3 1"), ("left 0", "1 2 3 6 | 0"), ("left 3", "1 2 4 5 | 3"),
            # The keys are 576 144 8 72.
            ("keep 0", "-"), ("keep 2", "0 0; 0 1"), ("keep 3", "0 0; 0 1; 0 3"), ("keep 4", "0 0; 0 1; 0 2; 0 3"),
            ("within 7", "0 0; 0 1; 0 2; 0 3"), ("within 8", "0 0; 0 1; 0 3"), ("within 79", "0 0; 0 1; 0 3"),
            ("within 80", "0 0; 0 1"), ("within 800", "-"), ("noughts", "0"),
            ("compare -", "sum 0; half 0; guess 0; lean 0"), ("compare r", "sum 0; half 0; guess 1; lean 1"),
            ("signs", row), ("read " + row, "1 2 3 6 | 0"), ("read " + row[:23], "0 0 0 0 | 15"), ("picture", "1 2 3 6"))

    def test_copies_and_places_of_two_sides(self):
        desk = desk_with("plan 3 3 half b", "field 1 2 3; 4 5 6; 7 8 9")
        self.assert_says(desk, ("share 1 1 1", "2 2 4"), ("share 1 0 1", "0 2 2; 1 2 2"), ("hangs 2 1", "0 2; 1 2"),
                         ("needs 2 0", "1 0; 1 2"), ("coarse 1", "2 4; 7 9"), ("keep 1", "1 1"),
                         # Behind the rows it is 1 3 -1; 4 6 -1; 7 9 -1.
                         ("numbers", "2 4 -1; 7 9 -1; -3 -3 0"), ("noughts", "1"))

    def test_every_line_as_its_functions_tell(self):
        chance = random.Random(161)
        for plan in list(some_plans(chance, 60, 7)) + [Plan(8, 64, "guess", "bbr"), Plan(22, 23, "sum", "bbbbb")]:
            rows = some_rows(chance, plan.height(), plan.width(), chance.choice((0, 1, 30, MOST)))
            picture, numbers, desk = Field(rows), halved(plan, Field(rows)), desk_of(plan, rows)
            y, x = chance.choice(picture.places())
            step, bound = chance.randint(0, plan.steps()), chance.choice((0, 1, 40, 10 ** 9))
            many, most = chance.randint(0, len(picture.places())), chance.choice((0, 100, 10 ** 12, 10 ** 29))
            height, width = plan.corner(step)
            down, along = chance.randrange(height), chance.randrange(width)
            row = signs(plan, numbers)
            cut = row[:chance.randint(row.index(":") + 1, len(row))]
            reading = read_signs(cut)
            self.assert_says(
                desk, ("picture", field_text(picture)), ("numbers", field_text(numbers)), ("deeds", "0"),
                (f"coarse {step}", field_text(coarse(plan, numbers, step))),
                (f"hangs {y} {x}", list_of(hangs(plan, (y, x)))),
                (f"needs {y} {x}", list_of(needs(plan, (y, x)))),
                (f"share {step} {down} {along}", list_of(share(plan, step, (down, along)))),
                (f"left {bound}", f"{field_text(put_back(plan, left_out(plan, numbers, bound)))} | "
                                  f"{greatest(plan, bound)}"),
                (f"keep {many}", list_of(kept(plan, numbers, many))), ("noughts", str(noughts(plan, picture))),
                (f"compare {plan.way() or '-'}", list_of(compared(picture, plan.way()))), ("signs", row),
                ("read " + cut, f"{field_text(put_back(plan, reading.numbers()))} | "
                                f"{max(worst(plan, reading.unread()).flat())}"))
            if plan.rule().word() == "sum":
                self.assert_says(desk, (f"within {most}", list_of(within(plan, numbers, most))))

    def test_lines_that_ask_change_nothing(self):
        for word in words():
            desk = desk_with(f"plan 2 3 {word} b", "field 1 2 3; 4 5 6", "put 0 0 4", "add 0 0 0; 1 1 1")
            other = desk_with(f"plan 1 2 {word} r", "field 5 9")
            before = shown(desk)
            lines = ASKING + ["coarse 1", "hangs 0 0", "needs 1 2", "share 1 0 1", "left 2", "keep 3", "compare rp",
                              "read " + other.say("signs"), "read " + desk.say("signs")[:-2]]
            for line in lines + (["within 9"] if word == "sum" else []):
                told = desk.say(line)
                self.assertEqual(shown(desk), before, line)
                self.assertEqual(desk.say(line), told)


class RefusedTest(Base):
    def setUp(self):
        self.desk = desk_with("plan 2 3 half rp", "field 1 2 3; 4 5 6", "put 0 0 7")

    def tearDown(self):
        self.assert_says(self.desk, ("picture", "7 2 3; 4 5 6"), ("deeds", "1"))

    def test_no_lines(self):
        for thing in wrong_things() + ["undo ", " undo", "put 1 0", "put 1 0 01", "field", "plan 2 3 half", "left -0",
                                       "put 1 0 " + "1" * 31, "add 1\n", ["undo"]]:
            self.refused(self.desk, NoLine, {"found": thing}, thing)

    def test_plans(self):
        for line, refusal, fields in (
                ("plan 0 3 half r", NoSize, {"one": 0, "other": 3}), ("plan 2 -3 x y", NoSize, {"one": 2, "other": -3}),
                ("plan 65 1 x y", NoSize, {"one": 65, "other": 1}),
                ("plan 23 23 x y", NoSize, {"one": 23, "other": 23}),
                ("plan 2 3 x y", NoRule, {"found": "x"}), ("plan 2 3 - -", NoRule, {"found": "-"}),
                ("plan 2 3 half y", NoWay, {"found": "y"}), ("plan 2 3 half --", NoWay, {"found": "--"}),
                ("plan 2 3 half pp", NoWay, {"found": "pp"}), ("plan 1 1 sum b", NoWay, {"found": "b"}),
                (f"plan {10 ** 29} 1 sum -", NoSize, {"one": 10 ** 29, "other": 1})):
            self.refused(self.desk, refusal, fields, line)

    def test_fields(self):
        for word in ("field", "add"):
            for text in ("", " ", "x", "1 2 3;4 5 6", "1 2 3; 4 5", "01 2 3; 4 5 6", "1  2 3; 4 5 6", "1 2 3; 4 5 6 ",
                         "-0 2 3; 4 5 6", "1" + "0" * 15 + " 2 3; 4 5 6", "1 2 3; 4 5 6; "):
                self.refused(self.desk, NoText, {"found": text}, f"{word} {text}")
            for text, size in (("1", (1, 1)), ("1 2; 3 4; 5 6", (3, 2)), (f"{10 ** 14} 2; 3 4", (2, 2))):
                self.refused(self.desk, Unlike, {"one": (2, 3), "other": size}, f"{word} {text}")
        self.refused(self.desk, TooGreat, {"place": (0, 1)}, f"field {MOST} {MOST + 1} 3; 4 {10 ** 14} 6")
        self.refused(self.desk, TooGreat, {"place": (1, 2)}, f"field {MOST} {-MOST} 3; 4 5 {-MOST - 1}")
        self.refused(self.desk, TooGreat, {"place": (0, 0)}, f"add {MOST - 6} {MOST} 3; 4 5 6")
        self.refused(self.desk, TooGreat, {"place": (0, 1)}, f"add {MOST - 7} {-MOST - 3} {MOST}; 4 5 6")

    def test_put_and_undo(self):
        for line, refusal, found in (
                ("put 2 0 1", NoPlace, (2, 0)), ("put 0 3 1", NoPlace, (0, 3)), ("put -1 0 1", NoPlace, (-1, 0)),
                (f"put 0 {10 ** 29} {10 ** 29}", NoPlace, (0, 10 ** 29)), (f"put 0 0 {MOST + 1}", NoNumber, MOST + 1),
                (f"put 1 2 {-MOST - 1}", NoNumber, -MOST - 1), (f"put 1 2 {10 ** 29}", NoNumber, 10 ** 29)):
            self.refused(self.desk, refusal, {"found": found}, line)
        other = desk_with("plan 1 2 half r", "put 0 0 1", "undo")
        self.refused(other, NoDeed, {"found": "undo"}, "undo")

    def test_asking(self):
        for line, refusal, found in (
                ("coarse 3", NoStep, 3), ("coarse -1", NoStep, -1), (f"coarse {10 ** 29}", NoStep, 10 ** 29),
                ("hangs 2 0", NoPlace, (2, 0)), ("hangs 0 -1", NoPlace, (0, -1)), ("needs 0 3", NoPlace, (0, 3)),
                ("needs -1 -1", NoPlace, (-1, -1)), ("share 3 0 0", NoStep, 3), ("share -1 9 9", NoStep, -1),
                ("share 1 0 2", NoPlace, (0, 2)), ("share 2 1 0", NoPlace, (1, 0)), ("share 0 0 3", NoPlace, (0, 3)),
                ("left -1", NoNumber, -1), (f"left {10 ** 9 + 1}", NoNumber, 10 ** 9 + 1), ("keep -1", NoMany, -1),
                ("keep 7", NoMany, 7), (f"keep {10 ** 29}", NoMany, 10 ** 29), ("within 0", NoSquares, "half"),
                ("within -1", NoSquares, "half"), ("compare x", NoWay, "x"), ("compare bb", NoWay, "bb"),
                ("compare ppp", NoWay, "ppp"), ("compare --", NoWay, "--")):
            self.refused(self.desk, refusal, {"found": found}, line)
        for word in ("guess", "lean"):
            self.refused(desk_with(f"plan 1 2 {word} r"), NoSquares, {"found": word}, "within 0")
        other = desk_with("plan 1 2 sum r", "field 1 2")
        for number in (-1, 10 ** 29 + 1, 10 ** 30 - 1):
            self.refused(other, NoNumber, {"found": number}, f"within {number}")
        self.assert_says(other, (f"within {10 ** 29}", "-"), (f"left {10 ** 9}", "1 2 | 500000000"))

    def test_rows_of_signs(self):
        plan = Plan(2, 2, "half", "b")
        row = signs(plan, Field([[5, -2], [0, 1]]))
        head = row[:row.index(":") + 1]
        for word in ("take", "read"):
            for text in ("", " ", "x", head[:-1], " " + row, row.replace("half", "sums"), row.replace("2 2", "2 3"),
                         head_as_written(2, 2, "half", "bb", 1), head_as_written(2, 2, "half", "b", 31)):
                self.refused(self.desk, NoHead, {"found": text}, f"{word} {text}")
            self.refused(self.desk, BadSign, {"where": len(row)}, f"{word} {row} ")
            self.refused(self.desk, BadSign, {"where": len(head)}, f"{word} {head}x")
            self.refused(self.desk, BadSign, {"where": len(head) + 1}, f"{word} {head}1 ")
            # A number read is beyond at (1, 0) and (0, 1): by rows (0, 1) comes first, in the plan's order too.
            great = {(0, 0): 10 ** 9, (0, 1): -(10 ** 9) - 1, (1, 0): 2 ** 30 - 1, (1, 1): 0}
            self.refused(self.desk, TooGreat, {"place": (0, 1)}, f"{word} {row_as_written(plan, great, 30)}")

    def test_numbers_that_are_beyond_by_rows(self):
        plan = Plan(2, 4, "half", "rp")
        cells = cells_of([[0] * 4] * 2)
        cells[(0, 3)] = cells[(1, 0)] = 2 ** 30 - 1
        for word in ("take", "read"):
            self.assertLess(plan.order().index((1, 0)), plan.order().index((0, 3)))
            self.refused(self.desk, TooGreat, {"place": (0, 3)}, f"{word} {row_as_written(plan, cells, 30)}")

    def test_what_is_put_back_is_no_picture(self):
        plan = Plan(1, 3, "half", "")
        for numbers, place in (([MOST, MOST + 1, -MOST - 1], (0, 1)), ([0, -MOST, -MOST - 1], (0, 2)),
                               ([10 ** 9, 0, 0], (0, 0))):
            row = signs(plan, Field([numbers]))
            self.refused(self.desk, TooGreat, {"place": place}, "take " + row)
            # It is asked for all the same.
            self.assert_says(self.desk, ("read " + row, " ".join(str(number) for number in numbers) + " | 0"))
        self.refused(self.desk, TooGreat, {"place": (0, 1)},
                     "take " + signs(Plan(1, 2, "guess", "r"), Field([[MOST, MOST]])))
        row = signs(Plan(1, 2, "guess", "r"), Field([[MOST, MOST]]))
        # The first one is 100000 less 200002 // 4, the second one 100000 and the first one.
        self.assert_says(self.desk, ("read " + row, "50000 150000 | 0"))


class FollowsTest(Base):
    def test_a_desk_that_takes_the_signs_of_another_has_its_plan_and_picture(self):
        chance = random.Random(162)
        for plan in told_plans() + list(some_plans(chance, 60, 12)):
            rows = some_rows(chance, plan.height(), plan.width(), chance.choice((0, 3, MOST)))
            one, other = desk_of(plan, rows), desk_with("plan 1 2 sum r", "put 0 0 4")
            self.assertEqual(other.say("take " + one.say("signs")), "ok")
            self.assert_says(other, ("deeds", "0"), ("picture", field_text(Field(rows))),
                             *[(line, one.say(line)) for line in ("numbers", "signs", "noughts", "keep 1", "coarse 0")])
            # What is added answers by the plan, too.
            more = "add " + field_text(Field([[0] * plan.width()] * plan.height()))
            self.assertEqual(other.say(more), one.say(more))

    def test_two_desks_whose_plans_and_pictures_are_alike(self):
        chance = random.Random(163)
        for plan in some_plans(chance, 40, 6):
            rows = some_rows(chance, plan.height(), plan.width(), 9)
            one = desk_of(plan, some_rows(chance, plan.height(), plan.width(), 9))
            for (y, x) in Field(rows).places():
                one.say(f"put {y} {x} {rows[y][x]}")
            other = desk_of(plan, rows)
            for line in ["picture", "numbers", "noughts", "signs", "coarse 0", f"coarse {plan.steps()}", "hangs 0 0",
                         "needs 0 0", f"share {plan.steps()} 0 0", "left 3", "keep 1", f"compare {plan.way() or '-'}",
                         "read " + other.say("signs")[:-1] if any(any(row) for row in rows) else "picture",
                         "put 0 0 11", "add " + field_text(Field(rows)), "picture", "numbers"]:
                self.assertEqual(one.say(line), other.say(line), line)
            self.assertNotEqual(one.say("deeds"), other.say("deeds"))

    def test_all_deeds_undone_the_picture_is_the_first_one(self):
        chance = random.Random(164)
        for plan in some_plans(chance, 40, 6):
            rows = some_rows(chance, plan.height(), plan.width(), 9)
            desk = desk_of(plan, rows)
            before = shown(desk)
            for time in range(30):
                kept_back = shown(desk)
                try:
                    desk.say(some_line(chance, plan))
                except HalvedError:
                    self.assertEqual(shown(desk), kept_back)
            while desk.say("deeds") != "0":
                desk.say("undo")
            self.assertEqual(shown(desk), before)

    def test_two_desks_have_nothing_in_common(self):
        one, other = Desk(), Desk()
        one.say("put 0 0 3")
        self.assert_says(other, ("picture", "0"), ("deeds", "0"))
        one.say("plan 1 2 sum r")
        other.say("take " + one.say("signs"))
        one.say("put 0 1 5")
        self.assert_says(other, ("picture", "0 0"), ("deeds", "0"), ("put 0 0 1", "0 0 0 1; 0 1 0 1"))
        self.assert_says(one, ("picture", "0 5"), ("deeds", "1"))

    def test_two_hundred_deeds(self):
        desk = desk_with("plan 2 2 lean b")
        for time in range(200):
            desk.say(f"put {time % 2} {time // 2 % 2} {time}")
        self.assert_says(desk, ("deeds", "200"), ("picture", "196 198; 197 199"))
        for time in range(200):
            desk.say("undo")
        self.assert_says(desk, ("deeds", "0"), ("picture", "0 0; 0 0"))


class CheckedAnswersTest(Base):
    def test_what_is_answered_can_be_said_again(self):
        chance = random.Random(165)
        for plan in some_plans(chance, 40, 9):
            rows = some_rows(chance, plan.height(), plan.width(), 99)
            desk = desk_of(plan, rows)
            self.assert_says(desk, ("field " + desk.say("picture"), "ok"), ("picture", field_text(Field(rows))))
            self.assertEqual(field_text(read_field(desk.say("numbers"))), desk.say("numbers"))
            told = desk.say("signs").partition(":")[2].split(";")[:-1]
            self.assertTrue(all(check_as_written(plane[:-2]) == plane[-2:] for plane in told))


if __name__ == "__main__":
    unittest.main()
