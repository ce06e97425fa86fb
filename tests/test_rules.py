"""Rows halved by the four rules, and put back [20] to [27]."""

import itertools
import random
import unittest

from halvedpictures.errors import NoHalves, NoRow
from halvedpictures.lifted import Guessed, Leaning
from halvedpictures.rules import Halves, Sums
from tests.helper import assert_refused, halves_as_written, is_plain_whole, shown, wrong_things

GREAT = 10 ** 15 - 1

# A row, and its sums and differences by the rules sum, half, guess and lean, reckoned by hand.
BY_HAND = [
    ([5, 2, -3, 4, 7], [7, 1, 14], [3, -7], [3, 0, 7], [3, -7], [6, -2, 8], [1, 2], [3, 0, 7], [2, -6]),
    ([5, 2, -3, 4], [7, 1], [3, -7], [3, 0], [3, -7], [6, -1], [1, 7], [3, 0], [2, -8]),
    ([9, 1], [10], [8], [5], [8], [5], [-8], [5], [8]),
    ([-1, 0], [-1], [-1], [-1], [-1], [0], [1], [-1], [-1]),
    ([4, 2], [6], [2], [3], [2], [3], [-2], [3], [2]),
    ([-3, 1, 0], [-2, 0], [-4], [-1, 0], [-4], [-1, 2], [3], [-1, 0], [-4]),
    ([0, -5, 1, 0], [-5, 1], [5, 1], [-3, 0], [5, 1], [-2, 0], [-5, -1], [-3, 0], [6, 2]),
    ([-4, -1, -6, -9, 3, 0, 8], [-5, -15, 3, 16], [-3, 3, 3], [-3, -8, 1, 8], [-3, 3, 3],
     [-2, -7, 0, 6], [4, -7, -5], [-3, -8, 1, 8], [-4, 4, 7]),
]


def rules():
    return [Sums(), Halves(), Guessed(), Leaning()]


def are_right_halves(sums, differences):
    """Point 25's words of both, for short rows."""
    lists = sums.__class__ is list and differences.__class__ is list
    if not lists or not all(is_plain_whole(one) and abs(one) <= GREAT for one in sums + differences):
        return False
    return len(differences) > 0 and len(sums) - len(differences) in (0, 1) and len(sums) + len(differences) <= 64


def some_row_lists(seed, times):
    chance = random.Random(seed)
    for time in range(times):
        most = chance.choice((1, 3, 10, 1000, GREAT))
        yield [chance.randint(-most, most) for at in range(chance.randint(2, 64))]


class HalvesTest(unittest.TestCase):
    def test_rows_reckoned_by_hand(self):
        for row, *due in BY_HAND:
            for at, rule in enumerate(rules()):
                sums, differences = due[2 * at], due[2 * at + 1]
                self.assertEqual(rule.halves(row), (sums, differences), (rule.word(), row))
                self.assertEqual(rule.back(sums, differences), row, (rule.word(), row))

    def test_halves_are_a_tuple_of_two_lists(self):
        for rule in rules():
            told = rule.halves([1, 2, 3])
            self.assertIs(told.__class__, tuple)
            self.assertEqual([part.__class__ for part in told], [list, list])
            self.assertIs(rule.back([1, 2], [3]).__class__, list)

    def test_as_many_sums_and_differences_as_pairs_and_what_is_left_over(self):
        for rule in rules():
            for many in range(2, 65):
                sums, differences = rule.halves(list(range(many)))
                self.assertEqual((len(sums), len(differences)), ((many + 1) // 2, many // 2))
                self.assertEqual(rule.back(sums, differences), list(range(many)))

    def test_rows_of_every_length_go_by_the_document(self):
        for row in some_row_lists(1, 400):
            for rule in rules():
                self.assertEqual(rule.halves(row), halves_as_written(rule.word(), row))

    def test_all_short_rows_of_small_numbers(self):
        for many in (2, 3, 4):
            for numbers in itertools.product(range(-3, 4), repeat=many):
                for rule in rules():
                    halves = rule.halves(list(numbers))
                    self.assertEqual(halves, halves_as_written(rule.word(), list(numbers)))
                    self.assertEqual(rule.back(*halves), list(numbers))

    def test_numbers_that_come_may_have_more_than_fifteen_figures(self):
        self.assertEqual(Sums().halves([GREAT, GREAT, -GREAT]), ([2 * GREAT, -2 * GREAT], [0]))
        self.assertEqual(Halves().halves([GREAT, -GREAT]), ([0], [2 * GREAT]))
        self.assertEqual(Guessed().halves([-GREAT, GREAT]), ([0], [2 * GREAT]))
        self.assertEqual(Leaning().halves([-GREAT, GREAT]), ([0], [-2 * GREAT]))
        self.assertEqual(Halves().back([GREAT], [GREAT]), [GREAT + 500000000000000, 500000000000000])


class BackTest(unittest.TestCase):
    def test_back_by_sum_from_any_sums_and_differences(self):
        self.assertEqual(Sums().back([4], [1]), [2, 2])
        self.assertEqual(Sums().back([-4], [-1]), [-3, -1])
        self.assertEqual(Sums().back([1, 3], [0]), [0, 1, 1])
        self.assertEqual(Sums().back([0, -3], [0]), [0, 0, -2])
        self.assertEqual(Sums().back([GREAT], [GREAT]), [GREAT, 0])

    def test_back_by_half_guess_and_lean_from_any_sums_and_differences(self):
        self.assertEqual(Halves().back([4], [-1]), [4, 5])
        self.assertEqual(Halves().back([4, 9], [-2]), [3, 5, 9])
        self.assertEqual(Guessed().back([4], [-1]), [4, 3])
        # The first ones are 4 - 0 and 9 - 0, so the second one is guessed to be 13 // 2.
        self.assertEqual(Guessed().back([4, 9], [-1]), [4, 5, 9])
        self.assertEqual(Leaning().back([4], [-1]), [4, 5])
        # The gap is -1 + (4 - 9 + 2) // 4, which is -2.
        self.assertEqual(Leaning().back([4, 9], [-1]), [3, 5, 9])

    def test_each_row_is_put_back_from_its_halves(self):
        for row in some_row_lists(2, 400):
            for rule in rules():
                sums, differences = rule.halves(row)
                if max(abs(number) for number in sums + differences) <= GREAT:
                    self.assertEqual(rule.back(sums, differences), row, rule.word())

    def test_any_halves_come_back_by_half_guess_and_lean(self):
        chance = random.Random(3)
        for time in range(400):
            most = chance.choice((1, 5, 1000, 10 ** 12))
            many = chance.randint(1, 32)
            differences = [chance.randint(-most, most) for at in range(many)]
            sums = [chance.randint(-most, most) for at in range(many + (many < 32 and chance.randrange(2)))]
            for rule in rules()[1:]:
                row = rule.back(sums, differences)
                self.assertEqual(len(row), len(sums) + len(differences))
                self.assertEqual(rule.halves(row), (sums, differences), rule.word())

    def test_small_halves_come_back_by_every_rule_where_they_may(self):
        for sums_many, differences_many in ((1, 1), (2, 1), (2, 2)):
            for numbers in itertools.product(range(-3, 4), repeat=sums_many + differences_many):
                sums, differences = list(numbers[:sums_many]), list(numbers[sums_many:])
                for rule in rules()[1:]:
                    self.assertEqual(rule.halves(rule.back(sums, differences)), (sums, differences), rule.word())
                even = all((one + other) % 2 == 0 for one, other in zip(sums, differences))
                if sums_many > differences_many:
                    even = even and sums[-1] % 2 == 0
                self.assertIs(Sums().halves(Sums().back(sums, differences)) == (sums, differences), even)


class ShapesTest(unittest.TestCase):
    def test_flat_rows_have_the_differences_nought(self):
        for rule in rules():
            for number in (0, 1, -1, 7, -8, GREAT, -GREAT):
                for many in range(2, 65):
                    sums, differences = rule.halves([number] * many)
                    self.assertEqual(differences, [0] * (many // 2))
                    self.assertEqual(sums, [number * (2 if rule.word() == "sum" else 1)] * len(sums))

    def test_bent_rows_by_guess(self):
        for many in (2, 3, 4, 5, 8, 63, 64):
            for start, slope, bend in itertools.product((0, 5, -9), (0, 1, -2, 7), (0, 1, -1, 4, -5)):
                row = [start + slope * at + bend * at * at for at in range(many)]
                differences = Guessed().halves(row)[1]
                inner = differences if many % 2 == 1 else differences[:-1]
                self.assertEqual(inner, [-bend] * len(inner))

    def test_even_rows_by_lean(self):
        for many in (6, 7, 8, 9, 63, 64):
            for start, slope in itertools.product((0, 5, -9), (0, 1, -1, 2, -3, 7, -20)):
                differences = Leaning().halves([start + slope * at for at in range(many)])[1]
                self.assertEqual(differences[1:-1], [0] * (len(differences) - 2))


class RefusedTest(unittest.TestCase):
    def test_rows_of_every_length(self):
        for rule in rules():
            for many in range(67):
                row = [3] * many
                if 2 <= many <= 64:
                    self.assertEqual(len(rule.halves(row)[0]), (many + 1) // 2)
                else:
                    assert_refused(self, NoRow, {"found": row}, rule.halves, row)

    def test_numbers_in_rows(self):
        for rule in rules():
            for thing in wrong_things():
                row = [1, 2, thing]
                if is_plain_whole(thing) and abs(thing) <= GREAT:
                    self.assertEqual(len(rule.halves(row)[0]), 2)
                else:
                    assert_refused(self, NoRow, {"found": row}, rule.halves, row)

    def test_no_rows(self):
        for rule in rules():
            for thing in wrong_things() + [(1, 2), (1, 2, 3, 4), {0: 1, 1: 2}, "12", [1, "2"]]:
                if shown(thing) != "list(0, 0)":
                    assert_refused(self, NoRow, {"found": thing}, rule.halves, thing)

    def test_halves_of_every_length(self):
        for rule in rules():
            for many in range(35):
                for sums_many in list(range(max(many - 2, 0), many + 4)) + [0, 64, 65]:
                    sums, differences = [4] * sums_many, [2] * many
                    if 1 <= many <= 32 and sums_many in (many, many + 1) and many + sums_many <= 64:
                        self.assertEqual(len(rule.back(sums, differences)), many + sums_many)
                    else:
                        assert_refused(self, NoHalves, {"sums": sums, "differences": differences},
                                       rule.back, sums, differences)

    def test_numbers_in_halves(self):
        for rule in rules():
            for thing in wrong_things():
                for sums, differences in (([1, thing], [2, 3]), ([1, 2], [thing, 3]), ([thing], [thing])):
                    if is_plain_whole(thing) and abs(thing) <= GREAT:
                        self.assertEqual(len(rule.back(sums, differences)), len(sums) + len(differences))
                    else:
                        assert_refused(self, NoHalves, {"sums": sums, "differences": differences},
                                       rule.back, sums, differences)

    def test_no_halves(self):
        for rule in rules():
            for thing in wrong_things():
                for sums, differences in ((thing, [1, 2]), ([1, 2], thing), (thing, thing), (thing, [])):
                    if are_right_halves(sums, differences):
                        self.assertEqual(len(rule.back(sums, differences)), len(sums) + len(differences))
                    else:
                        assert_refused(self, NoHalves, {"sums": sums, "differences": differences},
                                       rule.back, sums, differences)


class KeptTest(unittest.TestCase):
    def test_what_is_handed_in_stays_and_lists_told_are_new(self):
        for rule in rules():
            row = [5, 2, -3, 4, 7]
            one, other = rule.halves(row), rule.halves(row)
            self.assertEqual(row, [5, 2, -3, 4, 7])
            self.assertEqual(one, other)
            self.assertIsNot(one[0], other[0])
            self.assertIsNot(one[1], other[1])
            sums, differences = list(one[0]), list(one[1])
            one[0].clear()
            one[1].append(9)
            row.clear()
            self.assertEqual(other, (sums, differences))
            back = rule.back(sums, differences)
            self.assertEqual((sums, differences), other)
            back[0] = 99
            self.assertEqual(rule.back(sums, differences), [5, 2, -3, 4, 7])


if __name__ == "__main__":
    unittest.main()
