"""Rows of signs read as far as they go [94] to [96], *Signs* [7]."""

import random
import unittest

from halvedpictures.errors import BadSign, HalvedError, NoHead
from halvedpictures.fields import Field
from halvedpictures.lifted import words
from halvedpictures.planes import planes_of
from halvedpictures.plans import Plan
from halvedpictures.readings import Reading, read_signs
from halvedpictures.signs import signs
from halvedpictures.squares import squares
from tests.helper import (
    SIGNS, assert_refused, cells_of, check_as_written, head_as_written, read_as_written, row_as_written, shown,
    some_plans, some_rows, told_plans, wrong_things)

MOST = 10 ** 9


def body_of(row):
    return row.partition(":")[2]


def head_of_row(row):
    return row[:row.index(":") + 1]


def told_of(reading):
    """The numbers by their places, what is not read of them, and whether the row was whole."""
    return cells_of(reading.numbers().rows()), cells_of(reading.unread().rows()), reading.whole()


def some_row(chance, plan, most):
    """A row of numbers that some chance makes, with these."""
    rows = some_rows(chance, plan.height(), plan.width(), most)
    return signs(plan, Field(rows)), rows


class Base(unittest.TestCase):
    def assert_read(self, row, plan, planes, numbers, unread, whole):
        reading = read_signs(row)
        self.assertIsInstance(reading, Reading)
        self.assertIsInstance(reading.plan(), Plan)
        self.assertEqual(shown(reading.plan()), shown(plan))
        self.assertEqual(reading.planes(), planes)
        self.assertIsInstance(reading.numbers(), Field)
        self.assertIsInstance(reading.unread(), Field)
        self.assertEqual((reading.numbers().rows(), reading.unread().rows()), (numbers, unread), row)
        self.assertIs(reading.whole(), whole, row)


class CutTest(Base):
    def test_each_cut_by_hand(self):
        for word, check in (("sum", "83"), ("half", "48"), ("guess", "55"), ("lean", "32")):
            head, body, plan = f"halved 1 2 {word} r 3 {check}:", "1+080;01-37;1089;", Plan(1, 2, word, "r")
            due = {0: ([0, 0], [7, 7]), 1: ([0, 0], [7, 7]), 2: ([4, 0], [3, 7]), 3: ([4, 0], [3, 3]),
                   7: ([4, 0], [1, 3]), 8: ([4, 0], [1, 3]), 9: ([4, -2], [1, 1]), 13: ([5, -2], [0, 1]),
                   14: ([5, -2], [0, 0])}
            for cut in range(18):
                # Within checks, and at a `;`, nothing more is read.
                numbers, unread = due[max(at for at in due if at <= cut)]
                self.assert_read(head + body[:cut], plan, 3, [numbers], [unread], cut == 17)

    def test_no_plane_is_always_whole(self):
        self.assert_read("halved 1 1 sum - 0 83:", Plan(1, 1, "sum", ""), 0, [[0]], [[0]], True)
        self.assert_read("halved 1 2 lean r 0 02:", Plan(1, 2, "lean", "r"), 0, [[0, 0]], [[0, 0]], True)

    def test_more_planes_than_needed(self):
        plan = Plan(1, 2, "half", "r")
        row = head_as_written(1, 2, "half", "r", 4) + "0079;0079;01+35;1+0" + check_as_written("1+0") + ";"
        self.assert_read(row, plan, 4, [[1, 2]], [[0, 0]], True)
        self.assert_read(row[:-6], plan, 4, [[0, 2]], [[1, 1]], False)
        for planes in (1, 2, 30):
            row = head_as_written(1, 2, "half", "r", planes) + "0079;" * planes
            self.assert_read(row, plan, planes, [[0, 0]], [[0, 0]], True)
            self.assert_read(row[:-1], plan, planes, [[0, 0]], [[0, 0]], False)
            self.assert_read(row[:-4], plan, planes, [[0, 0]], [[0, 1]], False)

    def test_thirty_planes(self):
        plan, most = Plan(1, 3, "guess", ""), 2 ** 30 - 1
        row = row_as_written(plan, {(0, 0): most, (0, 1): -most, (0, 2): -MOST}, 30)
        self.assert_read(row, plan, 30, [[most, -most, -MOST]], [[0, 0, 0]], True)
        self.assert_read(head_of_row(row), plan, 30, [[0, 0, 0]], [[most] * 3], False)
        self.assert_read(head_of_row(row) + "1+1", plan, 30, [[2 ** 29, 0, 0]], [[2 ** 29 - 1, most, most]], False)
        self.assert_read(signs(plan, Field([[MOST, -MOST, 0]])), plan, 30, [[MOST, -MOST, 0]], [[0, 0, 0]], True)

    def test_numbers_stand_in_the_plans_order(self):
        plan = Plan(2, 4, "sum", "rp")
        row = signs(plan, Field([[0, 0, -1, 0], [1, 0, 0, 0]]))
        self.assert_read(row, plan, 1, [[0, 0, -1, 0], [1, 0, 0, 0]], [[0] * 4] * 2, True)
        self.assert_read(head_of_row(row) + "001+0", plan, 1, [[0] * 4, [1, 0, 0, 0]], [[0, 0, 1, 1], [0, 0, 1, 1]],
                         False)

    def test_every_cut_of_many_as_written(self):
        chance = random.Random(150)
        for plan in some_plans(chance, 60, 5):
            row, rows = some_row(chance, plan, chance.choice((0, 1, 5, 300)))
            for cut in range(len(head_of_row(row)), len(row) + 1):
                reading = read_signs(row[:cut])
                due = read_as_written(body_of(row[:cut]), plan.order(), reading.planes())
                self.assertEqual(told_of(reading), due)
                self.assertEqual(shown(reading.plan()), shown(plan))

    def test_rows_that_are_whole_have_the_numbers_that_were_written(self):
        chance = random.Random(151)
        for plan in told_plans() + list(some_plans(chance, 100, 12)):
            for most in (0, 1, MOST):
                row, rows = some_row(chance, plan, most)
                nothing = [[0] * plan.width()] * plan.height()
                self.assert_read(row, plan, planes_of(plan, Field(rows)), rows, nothing, True)

    def test_512_places(self):
        chance = random.Random(152)
        plan = Plan(8, 64, "lean", "bbbrrr")
        row, rows = some_row(chance, plan, MOST)
        self.assertLessEqual(len(row), 20000)
        self.assert_read(row, plan, 30, rows, [[0] * 64] * 8, True)
        for cut in (len(row) - 1, len(row) // 2, len(row) // 3, len(head_of_row(row)) + 1):
            reading = read_signs(row[:cut])
            self.assertEqual(told_of(reading), read_as_written(body_of(row[:cut]), plan.order(), 30))


class FollowsTest(Base):
    def test_what_is_read_lies_within_what_is_not_read_and_that_never_grows(self):
        chance = random.Random(153)
        for plan in list(some_plans(chance, 60, 5)) + [Plan(8, 8, "guess", "bb")]:
            row, rows = some_row(chance, plan, chance.choice((1, 9, MOST)))
            written, start = Field(rows), len(head_of_row(row))
            before = None
            for cut in range(start, len(row) + 1, 1 if len(row) < 400 else 37):
                reading = read_signs(row[:cut])
                lack = [abs(a - b) for a, b in zip(written.flat(), reading.numbers().flat())]
                unread = reading.unread().flat()
                self.assertTrue(all(one <= most for one, most in zip(lack, unread)))
                if before is not None:
                    self.assertTrue(all(now <= then for now, then in zip(unread, before)))
                before = unread
                self.assertIs(reading.whole(), cut == len(row))
            self.assertEqual(read_signs(row).numbers().rows(), rows)

    def test_by_sum_the_squares_of_what_is_lacking_never_grow(self):
        chance = random.Random(154)
        for plan in [Plan(plan.height(), plan.width(), "sum", plan.way()) for plan in some_plans(chance, 25, 4)]:
            row, rows = some_row(chance, plan, 99)
            before = None
            for cut in range(len(head_of_row(row)), len(row) + 1):
                read = read_signs(row[:cut]).numbers().rows()
                lack = Field([[a - b for a, b in zip(*pair)] for pair in zip(rows, read)])
                now = squares(plan, lack)
                self.assertTrue(before is None or now <= before)
                before = now
            self.assertEqual(before, 0)

    def test_a_whole_row_with_another_sign_is_refused(self):
        chance = random.Random(155)
        plans = [Plan(1, 1, "sum", ""), Plan(1, 2, "half", "r"), Plan(2, 2, "guess", "b"), Plan(3, 1, "lean", "p"),
                 Plan(2, 3, "sum", "rp"), Plan(12, 1, "half", "pp")]
        for plan in plans:
            for most in (0, 1, 12):
                row, rows = some_row(chance, plan, most)
                for at in range(len(row)):
                    for sign in SIGNS:
                        if sign != row[at]:
                            with self.assertRaises(HalvedError) as caught:
                                read_signs(row[:at] + sign + row[at + 1:])
                            head = at < len(head_of_row(row))
                            self.assertIs(caught.exception.__class__, NoHead if head else BadSign)

    def test_great_rows_with_another_sign_are_refused(self):
        chance = random.Random(156)
        for plan in told_plans()[40:]:
            row, rows = some_row(chance, plan, MOST)
            for time in range(8):
                at = chance.randrange(len(row))
                sign = chance.choice([sign for sign in SIGNS + ["0", "1", "+", "-"] * 20 if sign != row[at]])
                with self.assertRaises((NoHead, BadSign)):
                    read_signs(row[:at] + sign + row[at + 1:])


class NoHeadTest(Base):
    def test_any_thing(self):
        for thing in wrong_things():
            assert_refused(self, NoHead, {"found": thing}, read_signs, thing)

    def test_heads_cut_anywhere(self):
        for plan in (Plan(1, 1, "sum", ""), Plan(64, 8, "guess", "bbbppp")):
            row = signs(plan, Field([[7] * plan.width()] * plan.height()))
            for cut in range(len(head_of_row(row))):
                assert_refused(self, NoHead, {"found": row[:cut]}, read_signs, row[:cut])
            for more in (" ", "x", ":", "\n", "halved "):
                assert_refused(self, NoHead, {"found": more + row}, read_signs, more + row)
            assert_refused(self, NoHead, {"found": [row]}, read_signs, [row])

    def test_words_with_a_right_check(self):
        right = (2, 3, "half", "r", 1)
        self.assert_read(head_as_written(*right), Plan(2, 3, "half", "r"), 1, [[0] * 3] * 2, [[1] * 3] * 2, False)
        for at, wrong in ((0, (0, -2, 65, "02", "+2", "", "2 ", " 2", "two", "2.0", "1_0", 10 ** 29, 10 ** 15, "-0")),
                          (1, (0, -3, 65, 512, 257, "03", "+3", "", "3 ", "x", "-", 10 ** 29)),
                          (2, ("", "Half", "halves", "HALF", "half ", "rules", "-", "sums", 1)),
                          (3, ("", "x", "rrr", "bp", "pp", "R", "r-", "-r", "--", "r r", " r", "b b")),
                          (4, (31, -1, 100, "01", "+1", "", "1 ", " 1", "x", "-0", 10 ** 29, "00"))):
            for thing in wrong:
                words_of_head = right[:at] + (thing,) + right[at + 1:]
                text = head_as_written(*words_of_head)
                assert_refused(self, NoHead, {"found": text}, read_signs, text)
                assert_refused(self, NoHead, {"found": text + "?"}, read_signs, text + "?")

    def test_every_rule_and_planes_of_nought_and_thirty(self):
        for word in words():
            for planes in (0, 30):
                reading = read_signs(head_as_written(2, 2, word, "b", planes))
                self.assertEqual((reading.plan().rule().word(), reading.planes()), (word, planes))
                self.assertEqual(reading.unread().rows(), [[2 ** planes - 1] * 2] * 2)
                self.assertIs(reading.whole(), planes == 0)

    def test_other_forms(self):
        told = "halved 1 2 half r 1 "
        for text in (told + "48", told + check_as_written(told), told + check_as_written(told) + ";",
                     told + check_as_written(told) + " :", told + " " + check_as_written(told) + ":",
                     told + check_as_written(told[:-1]) + ":", told[:-1] + check_as_written(told[:-1]) + ":",
                     "Halved" + told[6:] + check_as_written("Halved" + told[6:]) + ":", ":", "", "halved", "halved:",
                     told.replace(" ", "\n") + check_as_written(told) + ":",
                     told * 2 + check_as_written(told * 2) + ":",
                     "halves" + told[6:] + check_as_written("halves" + told[6:]) + ":",
                     told + "x " + check_as_written(told + "x ") + ":",
                     " " + told + check_as_written(" " + told) + ":"):
            assert_refused(self, NoHead, {"found": text}, read_signs, text)
        for check in range(100):
            if f"{check:02d}" != check_as_written(told):
                text = f"{told}{check:02d}:"
                assert_refused(self, NoHead, {"found": text}, read_signs, text)
        # A check of one figure, with no 0 ahead of it.
        for planes in range(31):
            text = head_as_written(1, 2, "lean", "r", planes)
            if text[-3] == "0":
                short = text[:-3] + text[-2:]
                assert_refused(self, NoHead, {"found": short}, read_signs, short)


class BadSignTest(Base):
    def test_each_place_by_hand(self):
        head, body = "halved 1 2 half r 3 48:", "1+080;01-37;1089;"
        may = ["01", "+-", "01", "0123456789", "0123456789", ";", "01", "01", "+-", "0123456789", "0123456789", ";",
               "01", "01", "0123456789", "0123456789", ";", ""]
        for at, among in enumerate(may):
            for sign in SIGNS + ["\n"]:
                if sign not in list(among):
                    for more in ("", body[at + 1:], "?", "\n"):
                        text = head + body[:at] + sign + more
                        assert_refused(self, BadSign, {"where": len(head) + at}, read_signs, text)

    def test_checks(self):
        head, plane = "halved 1 2 half r 3 48:", "1+0"
        for check in range(100):
            text = head + plane + f"{check:02d}"
            if check == 80:
                self.assertIs(read_signs(text).whole(), False)
                continue
            for more in ("", ";", "x", "\n", ";01-37;1089;"):
                assert_refused(self, BadSign, {"where": len(head) + 3}, read_signs, text + more)
            # One figure alone is a check that was cut, whatever it is; what follows it has to be a figure.
            self.assertEqual(read_signs(text[:-1]).numbers().rows(), [[4, 0]])
            assert_refused(self, BadSign, {"where": len(head) + 4}, read_signs, text[:-1] + "x")
            assert_refused(self, BadSign, {"where": len(head) + 4}, read_signs, text[:-1] + ";")

    def test_nothing_stands_behind_the_last_plane(self):
        for row in ("halved 1 2 half r 3 48:1+080;01-37;1089;", "halved 1 1 sum - 0 83:"):
            self.assertIs(read_signs(row).whole(), True)
            for more in (" ", "0", "1", ";", "0079;", "\n", "x", ":", row):
                assert_refused(self, BadSign, {"where": len(row)}, read_signs, row + more)

    def test_a_first_one_has_its_sign_once(self):
        head = head_as_written(1, 1, "sum", "-", 2)
        check = check_as_written("1+")
        for text, where in ((head + "10", 1), (head + "11", 1), (head + "1;", 1), (head + "0+", 1), (head + "1++", 2),
                            (head + "1+" + check + ";1+", 6), (head + "1+" + check + ";1-", 6)):
            assert_refused(self, BadSign, {"where": len(head) + where}, read_signs, text)

    def test_many_changed_rows_as_written(self):
        chance, refused = random.Random(157), 0
        for plan in list(some_plans(chance, 250, 4)):
            row, rows = some_row(chance, plan, chance.choice((1, 5, 60)))
            head, body = head_of_row(row), body_of(row)
            for time in range(8):
                at = chance.randint(0, len(body))
                more = "".join(chance.choice("01+-;5\n") for sign in range(chance.randint(0, 2)))
                text = body[:at] + more + body[at + chance.randint(0, 2):chance.choice((len(body), at + 6))]
                planes = int(head.split(" ")[5])
                due = read_as_written(text, plan.order(), planes)
                if isinstance(due, int):
                    assert_refused(self, BadSign, {"where": len(head) + due}, read_signs, head + text)
                    refused += 1
                else:
                    self.assertEqual(told_of(read_signs(head + text)), due)
        self.assertGreater(refused, 500)


class NothingInCommonTest(Base):
    def test_lists_told_and_changed_change_nothing(self):
        row = signs(Plan(2, 2, "sum", "b"), Field([[5, -2], [0, 1]]))
        reading, other = read_signs(row), read_signs(row[:-9])
        before = shown([reading, other])
        reading.numbers().rows()[0].clear()
        reading.unread().flat().clear()
        reading.plan().parts().clear()
        other.numbers().rows().clear()
        self.assertEqual(shown([reading, other]), before)
        self.assertEqual(shown([read_signs(row), read_signs(row[:-9])]), before)
        self.assertEqual(reading.numbers().rows(), [[5, -2], [0, 1]])


if __name__ == "__main__":
    unittest.main()
