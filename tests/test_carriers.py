"""Errors carried back along a row by each rule [61]."""

import itertools
import random
import unittest

from halvedpictures.carriers import GuessCarrier, HalfCarrier, LeanCarrier, SumCarrier, carrier_of
from halvedpictures.errors import NoHalves, NoRule
from halvedpictures.lifted import rule_of, words
from tests.helper import assert_refused, carried_as_written, is_plain_whole, shown, wrong_things

GREAT = 10 ** 15 - 1

# The errors of the sums and the differences, and those of the row by sum, half, guess and lean, reckoned by hand.
BY_HAND = [
    ([7], [0], [4, 4], [7, 7], [7, 7], [9, 9]),
    ([0], [1], [1, 1], [1, 1], [1, 2], [1, 1]),
    ([3, 4], [2], [3, 3, 2], [4, 4, 4], [4, 7, 5], [5, 5, 4]),
    ([0, 1], [1, 5], [1, 1, 3, 3], [1, 1, 4, 4], [1, 3, 3, 8], [1, 1, 4, 4]),
    ([1, 2, 3], [4, 5], [3, 3, 4, 4, 2], [3, 3, 5, 5, 3], [3, 8, 5, 11, 6], [4, 4, 5, 5, 3]),
]


class CarriedTest(unittest.TestCase):
    def test_by_hand(self):
        for sums, differences, *due in BY_HAND:
            for carrier, row in zip((SumCarrier(), HalfCarrier(), GuessCarrier(), LeanCarrier()), due):
                self.assertEqual(carrier.carried(sums, differences), row, (carrier.word(), sums, differences))

    def test_as_written(self):
        chance = random.Random(70)
        for word in words():
            for many in list(range(2, 12)) + [31, 32, 63, 64]:
                for most in (2, 50, 2 ** 30, GREAT):
                    sums = [chance.randint(0, most) for at in range((many + 1) // 2)]
                    differences = [chance.randint(0, most) for at in range(many // 2)]
                    told = carrier_of(word).carried(sums, differences)
                    self.assertEqual(told, carried_as_written(word, sums, differences), (word, sums, differences))
                    self.assertEqual(len(told), many)

    def test_no_errors_are_carried_to_none(self):
        for word in words():
            for many in (2, 3, 4, 5, 63, 64):
                self.assertEqual(carrier_of(word).carried([0] * ((many + 1) // 2), [0] * (many // 2)), [0] * many)

    def test_greater_errors_are_carried_to_no_lesser_ones(self):
        chance = random.Random(71)
        for word in words():
            for time in range(100):
                many = chance.randint(2, 12)
                errors = [chance.randint(0, 9) for at in range(many)]
                more = [error + chance.randint(0, 3) for error in errors]
                middle = (many + 1) // 2
                less, great = [carrier_of(word).carried(one[:middle], one[middle:]) for one in (errors, more)]
                self.assertTrue(all(a <= b for a, b in zip(less, great)))

    def test_no_row_that_is_put_back_is_farther_away(self):
        for word in words():
            rule, carrier = rule_of(word), carrier_of(word)
            for middle, errors in ((1, (2, 3)), (2, (1, 2, 1)), (2, (0, 1, 3)), (2, (1, 0, 1, 2))):
                due = carrier.carried(list(errors[:middle]), list(errors[middle:]))
                for numbers in itertools.product(range(4), repeat=len(errors)):
                    row = rule.back(list(numbers[:middle]), list(numbers[middle:]))
                    for away in itertools.product(*[{-error, error} for error in errors]):
                        other = [number + one for number, one in zip(numbers, away)]
                        back = rule.back(other[:middle], other[middle:])
                        self.assertTrue(all(abs(here - there) <= error for here, there, error in zip(row, back, due)))


class CarrierOfTest(unittest.TestCase):
    def test_carriers_by_their_words(self):
        for word, kind in zip(words(), (SumCarrier, HalfCarrier, GuessCarrier, LeanCarrier)):
            self.assertIs(carrier_of(word).__class__, kind)
            self.assertEqual(carrier_of(word).word(), word)
            self.assertEqual(kind().word(), word)

    def test_how_they_stand(self):
        self.assertEqual(HalfCarrier.__bases__, (SumCarrier,))
        self.assertEqual(GuessCarrier.__bases__, (SumCarrier,))
        self.assertEqual(LeanCarrier.__bases__, (HalfCarrier,))

    def test_no_words(self):
        for thing in wrong_things() + ["half ", "Half", ["half"], ("lean",)]:
            if isinstance(thing, str) and thing in words():
                self.assertEqual(carrier_of(thing).word(), thing)
            else:
                assert_refused(self, NoRule, {"found": thing}, carrier_of, thing)


def carried(carrier, sums, differences):
    return carrier.carried(sums, differences)


def are_errors(thing, lengths):
    return thing.__class__ is list and len(thing) in lengths and all(
        is_plain_whole(one) and 0 <= one <= GREAT for one in thing)


class RefusedTest(unittest.TestCase):
    def refused(self, sums, differences):
        for word in words():
            assert_refused(self, NoHalves, {"sums": sums, "differences": differences}, carried, carrier_of(word),
                           sums, differences)

    def test_things_of_every_kind(self):
        for thing in wrong_things():
            if are_errors(thing, (1, 2)):
                self.assertEqual(len(SumCarrier().carried(thing, [1])), 1 + len(thing))
            else:
                self.refused(thing, [1])
                self.refused(thing, thing)
            if not are_errors(thing, (1,)):
                self.refused([1], thing)

    def test_numbers_below_nought(self):
        for sums, differences in (([-1], [0]), ([0], [-1]), ([-1], [-1]), ([0, 0, -1], [0, 0]), ([0, 0, 0], [0, -5]),
                                  ([-GREAT], [0])):
            self.refused(sums, differences)

    def test_lengths(self):
        for many, fewer in ((1, 0), (0, 0), (0, 1), (1, 2), (3, 1), (2, 3), (33, 32), (32, 33), (34, 32), (64, 1)):
            self.refused([0] * many, [0] * fewer)
        for many, fewer in ((1, 1), (2, 1), (32, 32), (32, 31)):
            self.assertEqual(LeanCarrier().carried([0] * many, [0] * fewer), [0] * (many + fewer))

    def test_numbers_of_more_than_fifteen_figures(self):
        self.refused([GREAT + 1], [0])
        self.refused([0], [GREAT + 1])
        self.assertEqual(HalfCarrier().carried([GREAT], [GREAT]), [GREAT + 5 * 10 ** 14] * 2)


class KeptTest(unittest.TestCase):
    def test_lists_stay_and_are_the_askers_own(self):
        for word in words():
            carrier, sums, differences = carrier_of(word), [3, 4], [2]
            told = carrier.carried(sums, differences)
            kept = list(told)
            told.clear()
            self.assertEqual((sums, differences), ([3, 4], [2]))
            self.assertEqual(carrier.carried(sums, differences), kept)
            self.assertEqual(shown(carrier), shown(carrier_of(word)))


if __name__ == "__main__":
    unittest.main()
