"""On what the halves of a row hang, and on what the row hangs when it is put back [41]."""

import random
import unittest

from halvedpictures.errors import NoNumber, NoPlace, NoRule
from halvedpictures.lifted import rule_of, words
from halvedpictures.spreads import back_spread, spread
from tests.helper import (
    Hung, assert_refused, back_as_written, halves_as_written, is_plain_whole, wrong_things)

SPREADS = {
    ("sum", 2): [[0, 1], [0, 1]],
    ("guess", 2): [[0, 1], [0, 1]],
    ("lean", 2): [[0, 1], [0, 1]],
    ("sum", 3): [[0, 1], [2], [0, 1]],
    ("guess", 3): [[0, 1, 2], [0, 1, 2], [0, 1, 2]],
    ("lean", 3): [[0, 1], [2], [0, 1, 2]],
    ("sum", 4): [[0, 1], [2, 3], [0, 1], [2, 3]],
    ("guess", 4): [[0, 1, 2], [0, 1, 2, 3], [0, 1, 2], [2, 3]],
    ("lean", 4): [[0, 1], [2, 3], [0, 1, 2, 3], [0, 1, 2, 3]],
    ("sum", 5): [[0, 1], [2, 3], [4], [0, 1], [2, 3]],
    ("guess", 5): [[0, 1, 2], [0, 1, 2, 3, 4], [2, 3, 4], [0, 1, 2], [2, 3, 4]],
    ("lean", 5): [[0, 1], [2, 3], [4], [0, 1, 2, 3], [0, 1, 2, 3, 4]],
}
BACK_SPREADS = {
    ("sum", 2): [[0, 1], [0, 1]],
    ("guess", 2): [[0, 1], [0, 1]],
    ("lean", 2): [[0, 1], [0, 1]],
    ("sum", 3): [[0, 2], [0, 2], [1]],
    ("guess", 3): [[0, 2], [0, 1, 2], [1, 2]],
    ("lean", 3): [[0, 1, 2], [0, 1, 2], [1]],
    ("sum", 4): [[0, 2], [0, 2], [1, 3], [1, 3]],
    ("guess", 4): [[0, 2], [0, 1, 2, 3], [1, 2, 3], [1, 2, 3]],
    ("lean", 4): [[0, 1, 2], [0, 1, 2], [0, 1, 3], [0, 1, 3]],
    ("sum", 5): [[0, 3], [0, 3], [1, 4], [1, 4], [2]],
    ("guess", 5): [[0, 3], [0, 1, 3, 4], [1, 3, 4], [1, 2, 3, 4], [2, 4]],
    ("lean", 5): [[0, 1, 3], [0, 1, 3], [0, 1, 2, 4], [0, 1, 2, 4], [2]],
}


class ByHandTest(unittest.TestCase):
    def test_short_rows(self):
        for told, due in ((spread, SPREADS), (back_spread, BACK_SPREADS)):
            for (word, many), places in due.items():
                self.assertEqual([told(word, many, place) for place in range(many)], places, (word, many))
                if word == "sum":
                    self.assertEqual([told("half", many, place) for place in range(many)], places, ("half", many))

    def test_the_first_and_the_last_pair_of_64(self):
        self.assertEqual([spread("half", 64, place) for place in (0, 31, 32, 63)], [[0, 1], [62, 63]] * 2)
        self.assertEqual([spread("guess", 64, place) for place in (0, 31, 32, 63)],
                         [[0, 1, 2], [60, 61, 62, 63], [0, 1, 2], [62, 63]])
        self.assertEqual([spread("lean", 64, place) for place in (0, 31, 32, 63)],
                         [[0, 1], [62, 63], [0, 1, 2, 3], [60, 61, 62, 63]])
        self.assertEqual([back_spread("sum", 64, place) for place in (0, 1, 62, 63)], [[0, 32]] * 2 + [[31, 63]] * 2)
        self.assertEqual([back_spread("guess", 64, place) for place in (0, 1, 62, 63)],
                         [[0, 32], [0, 1, 32, 33], [31, 62, 63], [31, 62, 63]])
        self.assertEqual([back_spread("lean", 64, place) for place in (0, 1, 62, 63)],
                         [[0, 1, 32]] * 2 + [[30, 31, 63]] * 2)

    def test_the_one_left_over_of_63(self):
        self.assertEqual([spread(word, 63, 31) for word in words()], [[62], [62], [60, 61, 62], [62]])
        self.assertEqual([back_spread(word, 63, 62) for word in words()], [[31], [31], [31, 62], [31]])
        self.assertEqual(spread("lean", 63, 62), [58, 59, 60, 61, 62])


class AsWrittenTest(unittest.TestCase):
    def test_every_row_goes_by_the_rules_as_they_are_written(self):
        for word in words():
            for many in range(2, 65):
                row = [Hung(place) for place in range(many)]
                sums, differences = halves_as_written(word, row)
                self.assertEqual([spread(word, many, place) for place in range(many)],
                                 [sorted(one.places) for one in sums + differences], (word, many))
                middle = (many + 1) // 2
                back = back_as_written(word, row[:middle], row[middle:])
                self.assertEqual([back_spread(word, many, place) for place in range(many)],
                                 [sorted(one.places) for one in back], (word, many))

    def test_rows_alike_at_the_spread_have_the_same_half(self):
        chance = random.Random(41)
        for word in words():
            for time in range(150):
                many = chance.choice((2, 3, 4, 5, 6, 7, 9, 63, 64))
                place = chance.randrange(many)
                row = [chance.randint(-99, 99) for at in range(many)]
                other = [chance.randint(-99, 99) for at in range(many)]
                for hung in spread(word, many, place):
                    other[hung] = row[hung]
                halves = [sum(rule_of(word).halves(one), [])[place] for one in (row, other)]
                self.assertEqual(halves[0], halves[1], (word, many, place))

    def test_halves_alike_at_the_back_spread_put_back_the_same_number(self):
        chance = random.Random(42)
        for word in words():
            for time in range(150):
                many = chance.choice((2, 3, 4, 5, 6, 7, 9, 63, 64))
                middle, place = (many + 1) // 2, chance.randrange(many)
                halves = [chance.randint(-99, 99) for at in range(many)]
                other = [chance.randint(-99, 99) for at in range(many)]
                for hung in back_spread(word, many, place):
                    other[hung] = halves[hung]
                told = [rule_of(word).back(one[:middle], one[middle:])[place] for one in (halves, other)]
                self.assertEqual(told[0], told[1], (word, many, place))


class RefusedTest(unittest.TestCase):
    def test_words_first(self):
        for told in (spread, back_spread):
            for thing in wrong_things():
                if isinstance(thing, str) and thing in words():
                    continue
                for many, place in ((4, 0), (1, 0), (4, 4), (None, None), (thing, thing)):
                    assert_refused(self, NoRule, {"found": thing}, told, thing, many, place)

    def test_then_how_many(self):
        for told in (spread, back_spread):
            for thing in wrong_things() + [2, 64]:
                if is_plain_whole(thing) and 2 <= thing <= 64:
                    self.assertIsInstance(told("guess", thing, thing - 1), list)
                    continue
                for place in (0, -1, 99, None, thing):
                    assert_refused(self, NoNumber, {"found": thing}, told, "guess", thing, place)

    def test_then_the_place(self):
        for told in (spread, back_spread):
            for many in (2, 3, 8, 64):
                for thing in wrong_things() + [many, many - 1]:
                    if is_plain_whole(thing) and 0 <= thing < many:
                        self.assertIsInstance(told("lean", many, thing), list)
                    else:
                        assert_refused(self, NoPlace, {"found": thing}, told, "lean", many, thing)


class NewListsTest(unittest.TestCase):
    def test_told_lists_are_the_askers_own(self):
        for told in (spread, back_spread):
            for word in words():
                for place in range(5):
                    before = list(told(word, 5, place))
                    told(word, 5, place).append(7)
                    told(word, 5, place).clear()
                    self.assertEqual(told(word, 5, place), before)


if __name__ == "__main__":
    unittest.main()
