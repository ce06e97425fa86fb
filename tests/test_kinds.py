"""Whole numbers and rows [2] [10]."""

import unittest

from halvedpictures.kinds import is_row, is_whole
from tests.helper import is_plain_whole, shown, wrong_things

GREAT = 10 ** 15 - 1


class WholeTest(unittest.TestCase):
    def test_low_and_high_are_counted(self):
        self.assertEqual([is_whole(number, -2, 3) for number in range(-4, 6)], [False] * 2 + [True] * 6 + [False] * 2)

    def test_low_may_be_high_and_may_be_above_it(self):
        self.assertIs(is_whole(5, 5, 5), True)
        for number in range(3, 8):
            self.assertIs(is_whole(number, 6, 4), False)

    def test_numbers_of_thirty_figures(self):
        most = 10 ** 30 - 1
        self.assertIs(is_whole(most, -most, most), True)
        self.assertIs(is_whole(-most, -most, most), True)
        self.assertIs(is_whole(most, -most, most - 1), False)
        self.assertIs(is_whole(-most, 1 - most, most), False)

    def test_truths_are_no_whole_numbers(self):
        self.assertIs(is_whole(True, 0, 1), False)
        self.assertIs(is_whole(False, 0, 1), False)
        self.assertIs(is_whole(1, 0, 1), True)
        self.assertIs(is_whole(0, 0, 1), True)

    def test_any_thing_has_an_answer_and_stays(self):
        for thing in wrong_things():
            before = shown(thing)
            answer = is_whole(thing, -(10 ** 30), 10 ** 30)
            self.assertIs(answer, is_plain_whole(thing), before)
            self.assertIs(is_whole(thing, -(10 ** 30), 10 ** 30), answer)
            self.assertEqual(shown(thing), before)


class RowTest(unittest.TestCase):
    def test_every_length_and_every_least(self):
        for least in range(65):
            for many in range(67):
                self.assertIs(is_row([7] * many, least), least <= many <= 64, (least, many))

    def test_numbers_of_fifteen_and_of_sixteen_figures(self):
        for number in (GREAT, -GREAT, 0):
            self.assertIs(is_row([1, number], 0), True)
        for number in (GREAT + 1, -GREAT - 1, 10 ** 29):
            self.assertIs(is_row([1, number], 0), False)
            self.assertIs(is_row([number, 1], 0), False)

    def test_every_number_is_looked_at(self):
        for at in range(64):
            row = [3] * 64
            row[at] = GREAT + 1
            self.assertIs(is_row(row, 0), False)

    def test_things_that_are_no_numbers(self):
        for thing in wrong_things():
            due = is_plain_whole(thing) and -GREAT <= thing <= GREAT
            self.assertIs(is_row([thing], 0), due, shown(thing))
            self.assertIs(is_row([0, thing, 0], 1), due, shown(thing))

    def test_any_thing_has_an_answer_and_stays(self):
        for least in (0, 1, 64):
            for thing in wrong_things():
                before = shown(thing)
                due = thing.__class__ is list and least <= len(thing) <= 64 and all(
                    is_plain_whole(one) and -GREAT <= one <= GREAT for one in thing)
                self.assertIs(is_row(thing, least), due, before)
                self.assertEqual(shown(thing), before)

    def test_only_lists_are_rows(self):
        for thing in ((1, 2), {1: 2}, "12", {}, (), ""):
            self.assertIs(is_row(thing, 0), False)


if __name__ == "__main__":
    unittest.main()
