"""Numbers kept, rooms and losses [74] to [77], *Squares* [7]."""

import itertools
import random
import unittest

from halvedpictures.errors import NoField, NoMany, NoNumber, NoPlaces, NoSquares, TooGreat, TooMany, Unlike
from halvedpictures.fields import Field
from halvedpictures.halving import halved
from halvedpictures.lifted import words
from halvedpictures.plans import Plan
from halvedpictures.rooms import best_of_all, kept, loss, shows_kept, with_kept, within
from halvedpictures.squares import copies, scaled, squares, weight
from tests.helper import (
    assert_refused, back_as_written, back_in_place, cells_of, is_place_of, is_plain_whole, shown, some_plans,
    some_rows, told_plans, wrong_things)

MOST = 10 ** 9
GREAT_LOSS = 10 ** 29

# The plan's order is not the one by rows; the weights are 4 in the pillar and coarse parts, 8 in the row part.
ROWS_FIRST = (2, 4, "rp", [[1, 2, 2, 1], [2, 1, 0, -2]])
IN_ORDER = [(0, 0), (0, 1), (1, 0), (1, 1), (0, 2), (0, 3), (1, 2), (1, 3)]


def plan_and_numbers(word):
    height, width, way, rows = ROWS_FIRST
    return Plan(height, width, word, way), Field(rows)


def key(plan, numbers, place):
    return numbers.at(place) ** 2 * weight(plan, place)


def by_rank(plan, numbers):
    """All places, the greatest key first, of one key those ahead in the order first; picked one by one."""
    keys = [(place, key(plan, numbers, place)) for place in plan.order()]
    ranked = []
    while keys:
        greatest = max(one for place, one in keys)
        first = [pair for pair in keys if pair[1] == greatest][0]
        keys.remove(first)
        ranked.append(first)
    return ranked


def in_order(plan, places):
    return [place for place in plan.order() if place in places]


def are_told_places(thing, height, width):
    """Whether a thing is a list or a tuple of places, none twice, said in other words than the package says it."""
    return thing.__class__ in (list, tuple) and all(is_place_of(one, height, width) for one in thing) and (
        all(thing.count(one) == 1 for one in thing))


def small_plans(chance, times, most):
    """Plans that some chance makes, of at most so many places."""
    for time in range(times):
        plan = list(some_plans(chance, 1, most))[0]
        while plan.height() * plan.width() > most:
            plan = list(some_plans(chance, 1, most))[0]
        yield plan


def by_sum(plan):
    return Plan(plan.height(), plan.width(), "sum", plan.way())


def some_numbers(chance, plan):
    """Numbers with many that are alike or 0, or with few."""
    return Field(some_rows(chance, plan.height(), plan.width(), chance.choice((0, 1, 2, 30, MOST))))


class KeptTest(unittest.TestCase):
    def test_by_hand(self):
        for word in words():
            plan, numbers = Plan(1, 5, word, "rr"), Field([[1, 2, 3, 4, 5]])
            # The weights are 4 4 4 8 8, so the keys are 4 16 36 128 200.
            self.assertEqual(kept(plan, numbers, 0), [])
            self.assertEqual(kept(plan, numbers, 1), [(0, 4)])
            self.assertEqual(kept(plan, numbers, 2), [(0, 3), (0, 4)])
            self.assertEqual(kept(plan, numbers, 3), [(0, 2), (0, 3), (0, 4)])
            self.assertEqual(kept(plan, numbers, 5), [(0, 0), (0, 1), (0, 2), (0, 3), (0, 4)])
            # 5 squared by 4 is less than 4 squared by 8.
            self.assertEqual(kept(plan, Field([[-5, 0, 0, -4, 1]]), 1), [(0, 3)])

    def test_the_places_stand_in_the_plans_order(self):
        for word in words():
            plan, numbers = plan_and_numbers(word)
            self.assertEqual(plan.order(), IN_ORDER)
            # The keys are, in this order, 4 16 16 4 32 8 0 32.
            for many, due in ((0, []), (1, [(0, 2)]), (2, [(0, 2), (1, 3)]), (3, [(0, 1), (0, 2), (1, 3)]),
                              (4, [(0, 1), (1, 0), (0, 2), (1, 3)]), (5, [(0, 1), (1, 0), (0, 2), (0, 3), (1, 3)]),
                              (6, [(0, 0), (0, 1), (1, 0), (0, 2), (0, 3), (1, 3)]),
                              (7, [(0, 0), (0, 1), (1, 0), (1, 1), (0, 2), (0, 3), (1, 3)]), (8, IN_ORDER)):
                self.assertEqual(kept(plan, numbers, many), due)

    def test_of_one_key_those_ahead_in_the_order(self):
        for word in words():
            plan, numbers = Plan(2, 2, word, "b"), Field([[1, -1], [-1, 1]])
            for many in range(5):
                self.assertEqual(kept(plan, numbers, many), [(0, 0), (0, 1), (1, 0), (1, 1)][:many])
            plan, numbers = plan_and_numbers(word)
            for many in range(9):
                self.assertEqual(kept(plan, Field([[0] * 4] * 2), many), IN_ORDER[:many])

    def test_without_steps(self):
        for word in words():
            self.assertEqual(kept(Plan(2, 2, word, ""), Field([[1, -4], [3, 2]]), 2), [(0, 1), (1, 0)])
            self.assertEqual(kept(Plan(1, 1, word, ""), Field([[0]]), 1), [(0, 0)])
            self.assertEqual(kept(Plan(1, 1, word, ""), Field([[7]]), 0), [])

    def test_many_by_picking(self):
        chance = random.Random(100)
        for plan in list(small_plans(chance, 100, 12)) + told_plans()[20:60:5]:
            numbers = some_numbers(chance, plan)
            ranked = by_rank(plan, numbers) if len(numbers.flat()) <= 60 else None
            for many in (0, 1, len(numbers.flat()) // 2, len(numbers.flat()) - 1, len(numbers.flat())):
                told = kept(plan, numbers, many)
                self.assertEqual((len(told), in_order(plan, told)), (many, told))
                self.assertIs(shows_kept(plan, numbers, many, told), True)
                if ranked is not None:
                    self.assertEqual(told, in_order(plan, [place for place, one in ranked[:many]]))

    def test_a_picture_of_512_places(self):
        plan = Plan(8, 64, "sum", "bbbrrr")
        numbers = Field([[64 * y + x for x in range(64)] for y in range(8)])
        self.assertEqual(kept(plan, numbers, 512), plan.order())
        # The greatest numbers are those of the first step, and have the greatest weights too.
        self.assertEqual(kept(plan, numbers, 3), [(7, 61), (7, 62), (7, 63)])


class ShowsKeptTest(unittest.TestCase):
    def test_which_of_one_key_is_free(self):
        for word in words():
            plan, numbers = plan_and_numbers(word)
            for thing, due in (([(0, 1), (0, 2), (1, 3)], True), ([(1, 0), (0, 2), (1, 3)], True),
                               ([(0, 2), (1, 0), (1, 3)], False), ([(1, 3), (0, 2), (0, 1)], False),
                               ([(0, 0), (0, 2), (1, 3)], False), ([(0, 1), (1, 0), (0, 2)], False),
                               ([(0, 1), (0, 2)], False), ([(0, 2), (1, 3), (1, 3)], False),
                               ([(0, 1), (1, 0), (0, 2), (1, 3)], False),
                               (((0, 1), (0, 2), (1, 3)), False), ([[0, 1], [0, 2], [1, 3]], False),
                               ([(0, 1), (0, 2), (1, 4)], False), ([(0, 1), (0, 2), None], False),
                               ([(False, 1), (0, 2), (1, 3)], False), ([(0, True), (0, 2), (1, 3)], False)):
                self.assertIs(shows_kept(plan, numbers, 3, thing), due, thing)

    def test_none_and_all(self):
        for word in words():
            plan, numbers = plan_and_numbers(word)
            self.assertIs(shows_kept(plan, numbers, 0, []), True)
            self.assertIs(shows_kept(plan, numbers, 0, ()), False)
            self.assertIs(shows_kept(plan, numbers, 0, [(0, 2)]), False)
            self.assertIs(shows_kept(plan, numbers, 8, IN_ORDER), True)
            self.assertIs(shows_kept(plan, numbers, 8, sorted(IN_ORDER)), False)
            self.assertIs(shows_kept(plan, numbers, 8, IN_ORDER[:7]), False)
            self.assertIs(shows_kept(plan, numbers, 1, []), False)

    def test_every_choice_of_small_pictures(self):
        chance = random.Random(101)
        for plan in small_plans(chance, 40, 6):
            numbers = some_numbers(chance, plan)
            keys = {place: key(plan, numbers, place) for place in plan.order()}
            for many in range(len(keys) + 1):
                for choice in itertools.permutations(plan.order(), min(many, 3)):
                    thing = list(choice)
                    left = [keys[place] for place in keys if place not in thing]
                    due = len(thing) == many and thing == in_order(plan, thing) and (
                        not any(one > keys[place] for one in left for place in thing))
                    self.assertIs(shows_kept(plan, numbers, many, thing), due)

    def test_any_thing(self):
        plan, numbers = Plan(1, 2, "half", "r"), Field([[1, 1]])
        for many in (0, 1, 2):
            for thing in wrong_things() + [[(0, 0)], [(0, 1)], [(0, 0), (0, 1)], [(0, 1), (0, 0)], [(0, 0)] * 2]:
                before = shown(thing)
                due = thing.__class__ is list and are_told_places(thing, 1, 2) and (
                    len(thing) == many and thing == sorted(thing))
                self.assertIs(shows_kept(plan, numbers, many, thing), due)
                self.assertEqual(shown(thing), before)


class WithKeptTest(unittest.TestCase):
    def test_by_hand(self):
        for word in words():
            plan, numbers = plan_and_numbers(word)
            for places, due in (([], [[0] * 4] * 2), ((), [[0] * 4] * 2),
                                ([(1, 3), (0, 0)], [[1, 0, 0, 0], [0, 0, 0, -2]]),
                                (((1, 0), (0, 3), (1, 2)), [[0, 0, 0, 1], [2, 0, 0, 0]]),
                                (IN_ORDER[::-1], numbers.rows()), (tuple(IN_ORDER), numbers.rows())):
                told = with_kept(plan, numbers, places)
                self.assertIsInstance(told, Field)
                self.assertEqual(told.rows(), due)

    def test_many(self):
        chance = random.Random(102)
        for plan in some_plans(chance, 60, 12):
            numbers = some_numbers(chance, plan)
            places = chance.sample(numbers.places(), chance.randint(0, len(numbers.places())))
            told = with_kept(plan, numbers, places)
            for place in numbers.places():
                self.assertEqual(told.at(place), numbers.at(place) if place in places else 0)


class LossTest(unittest.TestCase):
    def test_by_hand(self):
        plan, numbers = Plan(1, 5, "sum", "rr"), Field([[1, 2, 3, 4, 5]])
        for places, due in (([], 384), ((), 384), ([(0, 4)], 184), ([(0, 3), (0, 0)], 252), (((0, 1),), 368),
                            ([(0, 4), (0, 3), (0, 2), (0, 1), (0, 0)], 0)):
            self.assertEqual(loss(plan, numbers, places), due)
        self.assertEqual(loss(Plan(1, 2, "sum", ""), Field([[3, -4]]), [(0, 0)]), 16)

    def test_it_is_the_difference_of_what_is_put_back_scaled(self):
        chance = random.Random(103)
        for plan in [by_sum(plan) for plan in some_plans(chance, 60, 9)]:
            numbers = some_numbers(chance, plan)
            places = chance.sample(numbers.places(), chance.randint(0, len(numbers.places())))
            left = with_kept(plan, numbers, [place for place in numbers.places() if place not in places])
            self.assertEqual(loss(plan, numbers, places), squares(plan, left))
            one, other = scaled(plan, numbers), scaled(plan, with_kept(plan, numbers, places))
            self.assertEqual(loss(plan, numbers, places), sum(
                (one.at(place) - other.at(place)) ** 2 * copies(plan, place) for place in numbers.places()))

    def test_no_other_choice_of_as_many_has_a_lesser_loss(self):
        chance = random.Random(104)
        for plan in [by_sum(plan) for plan in small_plans(chance, 40, 7)]:
            numbers = some_numbers(chance, plan)
            for many in range(len(numbers.places()) + 1):
                told = kept(plan, numbers, many)
                losses = [loss(plan, numbers, choice) for choice in itertools.combinations(numbers.places(), many)]
                self.assertEqual(loss(plan, numbers, told), min(losses))

    def test_of_pictures_too(self):
        chance = random.Random(105)
        for plan in [by_sum(plan) for plan in small_plans(chance, 20, 6)]:
            numbers = halved(plan, Field(some_rows(chance, plan.height(), plan.width(), 9)))
            for many in range(len(numbers.places()) + 1):
                losses = [loss(plan, numbers, choice) for choice in itertools.combinations(numbers.places(), many)]
                self.assertEqual(loss(plan, numbers, kept(plan, numbers, many)), min(losses))


class WithinTest(unittest.TestCase):
    def test_by_hand(self):
        plan, numbers = Plan(1, 5, "sum", "rr"), Field([[1, 2, 3, 4, 5]])
        for most, first in ((0, 0), (3, 0), (4, 1), (19, 1), (20, 2), (55, 2), (56, 3), (183, 3), (184, 4), (383, 4),
                            (384, 5), (GREAT_LOSS, 5)):
            self.assertEqual(within(plan, numbers, most), [(0, x) for x in range(first, 5)], most)

    def test_of_one_key_those_farther_behind_are_left_out_first(self):
        plan, numbers = Plan(2, 2, "sum", "b"), Field([[1, -1], [-1, 1]])
        for most, many in ((0, 4), (3, 4), (4, 3), (7, 3), (8, 2), (12, 1), (15, 1), (16, 0)):
            self.assertEqual(within(plan, numbers, most), [(0, 0), (0, 1), (1, 0), (1, 1)][:many])
        plan, numbers = plan_and_numbers("sum")
        # The keys are, in the order, 4 16 16 4 32 8 0 32: the fourth one goes ahead of the first one.
        for most, left in ((0, 1), (3, 1), (4, 2), (7, 2), (8, 3), (15, 3), (16, 4), (31, 4), (32, 5), (47, 5), (48, 6),
                           (79, 6), (80, 7), (111, 7), (112, 8)):
            out = [(1, 2), (1, 1), (0, 0), (0, 3), (1, 0), (0, 1), (1, 3), (0, 2)][:left]
            self.assertEqual(within(plan, numbers, most), [place for place in IN_ORDER if place not in out], most)

    def test_numbers_that_are_nought_are_never_kept(self):
        for height, width, way in ((1, 1, ""), (3, 3, "b"), (2, 4, "rp")):
            plan, numbers = Plan(height, width, "sum", way), Field([[0] * width] * height)
            self.assertEqual(within(plan, numbers, 0), [])
            place = numbers.places()[-1]
            self.assertEqual(within(plan, numbers.with_number(place, -1), 0), [place])

    def test_the_greatest_loss(self):
        for height, width, way in ((1, 64, "rrrrrr"), (22, 23, "bbbbb"), (33, 15, "ppbbbb"), (8, 64, "")):
            plan = Plan(height, width, "sum", way)
            numbers = Field([[MOST] * width] * height)
            self.assertEqual(within(plan, numbers, GREAT_LOSS), [])
            self.assertEqual(within(plan, numbers, squares(plan, numbers)), [])
            self.assertEqual(len(within(plan, numbers, squares(plan, numbers) - 1)), 1)
            self.assertEqual(within(plan, numbers, 0), plan.order())

    def test_the_fewest_that_lose_at_most_so_much(self):
        chance = random.Random(106)
        for plan in [by_sum(plan) for plan in small_plans(chance, 60, 7)]:
            numbers = some_numbers(chance, plan)
            whole = squares(plan, numbers)
            for most in (0, whole // 7, whole // 3, whole // 2, max(whole - 1, 0), whole, chance.randint(0, whole)):
                told = within(plan, numbers, most)
                self.assertEqual(told, in_order(plan, told))
                self.assertLessEqual(loss(plan, numbers, told), most)
                self.assertEqual(told, kept(plan, numbers, len(told)))
                for fewer in itertools.combinations(numbers.places(), max(len(told) - 1, 0)):
                    if told:
                        self.assertGreater(loss(plan, numbers, fewer), most)


class BestOfAllTest(unittest.TestCase):
    def test_by_hand(self):
        plan, numbers = Plan(1, 2, "half", "r"), Field([[3, 5]])
        # Put back it is 6 1; of the sum alone 3 3, of the difference alone 3 -2.
        self.assertEqual(best_of_all(plan, numbers, 0), (37, []))
        self.assertEqual(best_of_all(plan, numbers, 1), (13, [(0, 0)]))
        self.assertEqual(best_of_all(plan, numbers, 2), (0, [(0, 0), (0, 1)]))
        # Here the number with the lesser key is the better one: 1 5 becomes 3 3.
        self.assertEqual(kept(plan, Field([[3, -4]]), 1), [(0, 1)])
        self.assertEqual(best_of_all(plan, Field([[3, -4]]), 1), (8, [(0, 0)]))
        # By sum 4 1 becomes 2 3, of the sum alone, and 1 -1, of the difference alone.
        self.assertEqual(best_of_all(Plan(1, 2, "sum", "r"), Field([[5, 3]]), 1), (8, [(0, 0)]))
        self.assertEqual(best_of_all(Plan(1, 1, "lean", ""), Field([[-7]]), 0), (49, []))

    def test_the_first_choice_is_told(self):
        for word in words():
            self.assertEqual(best_of_all(Plan(1, 3, word, ""), Field([[2, -2, 2]]), 1), (8, [(0, 0)]))
            self.assertEqual(best_of_all(Plan(1, 3, word, ""), Field([[1, -2, 2]]), 1), (5, [(0, 1)]))
            plan, numbers = plan_and_numbers(word)
            self.assertEqual(best_of_all(plan, Field([[0] * 4] * 2), 3), (0, IN_ORDER[:3]))

    def test_every_choice_by_every_rule(self):
        chance = random.Random(107)
        for word in words():
            for plan in [Plan(plan.height(), plan.width(), word, plan.way()) for plan in small_plans(chance, 12, 9)] + [
                    Plan(3, 3, word, "b"), Plan(1, 9, word, "rrr"), Plan(2, 4, word, "rp")]:
                numbers = some_numbers(chance, plan)
                whole = back_in_place(plan, cells_of(numbers.rows()), 0, back_as_written)
                for many in (0, 1, chance.randint(0, len(whole)), len(whole)):
                    if many > len(whole):
                        continue
                    due = None
                    for choice in itertools.combinations(plan.order(), many):
                        left = {place: number if place in choice else 0
                                for place, number in cells_of(numbers.rows()).items()}
                        back = back_in_place(plan, left, 0, back_as_written)
                        lost = sum((whole[place] - back[place]) ** 2 for place in whole)
                        if due is None or lost < due[0]:
                            due = (lost, list(choice))
                    self.assertEqual(shown(best_of_all(plan, numbers, many)), shown(due))

    def test_by_sum_where_nothing_is_halved_it_is_what_is_kept(self):
        chance = random.Random(108)
        for time in range(30):
            plan, numbers = Plan(3, 3, "sum", ""), Field(some_rows(chance, 3, 3, 3))
            many = chance.randint(0, 9)
            self.assertEqual(best_of_all(plan, numbers, many),
                             (loss(plan, numbers, kept(plan, numbers, many)), kept(plan, numbers, many)))

    def test_pictures_of_one_nine_and_ten_places(self):
        for word in words():
            self.assertEqual(best_of_all(Plan(1, 1, word, ""), Field([[4]]), 1), (0, [(0, 0)]))
            self.assertEqual(best_of_all(Plan(9, 1, word, "p"), Field([[0]] * 9), 0), (0, []))
            for height, width in ((2, 5), (1, 10), (8, 64)):
                plan, numbers = Plan(height, width, word, "r"), Field([[1] * width] * height)
                for many in (0, height * width, height * width + 1, None, -1):
                    assert_refused(self, TooMany, {"found": height * width}, best_of_all, plan, numbers, many)


TOLD_OF_ALL = (kept, shows_kept, with_kept, best_of_all)
TOLD_OF_SUM = (loss, within)


def handed(told, plan, numbers, third):
    """The things that are handed in to one of the functions."""
    return (plan, numbers, third, []) if told is shows_kept else (plan, numbers, third)


class RefusedTest(unittest.TestCase):
    def test_other_rules_ahead_of_all_else(self):
        for word in ("half", "guess", "lean"):
            plan = Plan(2, 2, word, "b")
            for told in TOLD_OF_SUM:
                for thing in wrong_things() + [Field([[10 ** 14] * 2] * 2)]:
                    assert_refused(self, NoSquares, {"found": word}, told, plan, thing, thing)
                assert_refused(self, NoSquares, {"found": word}, told, plan, Field([[1, 2], [3, 4]]), [(0, 0)])

    def test_numbers_ahead_of_what_stands_behind_them(self):
        for told in TOLD_OF_ALL + TOLD_OF_SUM:
            for plan in (Plan(2, 2, "sum", "b"), Plan(2, 6, "sum", "b")):
                size = (plan.height(), plan.width())
                for third in (1, -1, None, [(5, 5)], "x"):
                    for thing in wrong_things():
                        if not isinstance(thing, Field):
                            assert_refused(self, NoField, {"found": thing}, told, *handed(told, plan, thing, third))
                    for rows in ([[1]], [[1, 2]], [[1, 2, 3]] * 2, [[10 ** 14] * 2] * 3):
                        fields = {"one": size, "other": (len(rows), len(rows[0]))}
                        assert_refused(self, Unlike, fields, told, *handed(told, plan, Field(rows), third))
                    right = Field([[MOST, -MOST] * (plan.width() // 2)] * 2)
                    for place in ((0, 0), (0, 1), (1, 0), (1, 1)):
                        for number in (MOST + 1, -MOST - 1):
                            wrong = right.with_number((1, 1), -number).with_number(place, number)
                            assert_refused(self, TooGreat, {"place": place}, told, *handed(told, plan, wrong, third))

    def test_how_many(self):
        for word in words():
            plan, numbers = Plan(2, 3, word, "b"), Field([[1, 2, 3], [4, 5, 6]])
            for thing in wrong_things() + [6, 7]:
                for told in (kept, shows_kept, best_of_all):
                    if is_plain_whole(thing) and 0 <= thing <= 6:
                        told(*handed(told, plan, numbers, thing))
                    else:
                        assert_refused(self, NoMany, {"found": thing}, told, *handed(told, plan, numbers, thing))
                if not is_plain_whole(thing):
                    assert_refused(self, NoMany, {"found": thing}, shows_kept, plan, numbers, thing, None)

    def test_losses(self):
        plan, numbers = Plan(2, 3, "sum", "b"), Field([[1, 2, 3], [4, 5, 6]])
        for thing in wrong_things() + [GREAT_LOSS, GREAT_LOSS + 1]:
            if is_plain_whole(thing) and 0 <= thing <= GREAT_LOSS:
                self.assertIsInstance(within(plan, numbers, thing), list)
            else:
                assert_refused(self, NoNumber, {"found": thing}, within, plan, numbers, thing)

    def test_places(self):
        plan, numbers = Plan(2, 3, "sum", "b"), Field([[1, 2, 3], [4, 5, 6]])
        more = [[(0, 0), (0, 0)], ((1, 2), (0, 0), (1, 2)), [(2, 0)], [(0, 3)], [(0, 0), (-1, 0)], [[0, 0]],
                [(0, 0), None], ((0, 0), (True, 0)), {(0, 0): 1}, [(0, 0), (0, 0, 0)], [(0, 0), [(0, 1)]]]
        for thing in wrong_things() + more + [[(1, 2), (0, 0)], ((0, 1),)]:
            for told in (with_kept, loss):
                if are_told_places(thing, 2, 3):
                    told(plan, numbers, thing)
                else:
                    assert_refused(self, NoPlaces, {"found": thing}, told, plan, numbers, thing)
        for word in words():
            for thing in more:
                assert_refused(self, NoPlaces, {"found": thing}, with_kept, Plan(2, 3, word, "b"), numbers, thing)


class NothingInCommonTest(unittest.TestCase):
    def test_what_is_handed_in_stays_and_lists_are_the_askers_own(self):
        rows, places = [[1, 2, 3], [4, 5, 6], [7, 8, 9]], [(2, 2), (0, 1)]
        plan, numbers = Plan(3, 3, "sum", "bb"), Field(rows)
        rows[0][0] = 50
        before = shown([plan, numbers, places])
        field = with_kept(plan, numbers, places)
        for ask in (lambda: kept(plan, numbers, 4), lambda: within(plan, numbers, 500),
                    lambda: best_of_all(plan, numbers, 2)[1]):
            told = ask()
            due = list(told)
            told.clear()
            self.assertEqual(ask(), due)
        self.assertEqual((loss(plan, numbers, places), loss(plan, numbers, places[::-1])),
                         (loss(plan, numbers, tuple(places)),) * 2)
        self.assertIs(shows_kept(plan, numbers, 4, kept(plan, numbers, 4)), True)
        self.assertEqual(shown([plan, numbers, places]), before)
        places.clear()
        self.assertEqual(field.rows(), [[0, 2, 0], [0, 0, 0], [0, 0, 9]])

    def test_two_plans_and_two_fields_by_turns(self):
        plans = [Plan(1, 5, "sum", "rr"), Plan(1, 5, "sum", "")]
        fields = [Field([[1, 2, 3, 4, 5]]), Field([[5, 4, 3, 2, 1]])]
        # By the first plan the keys are 4 16 36 128 200 and 100 64 36 32 8.
        due = [[(0, 3), (0, 4)], [(0, 0), (0, 1)], [(0, 3), (0, 4)], [(0, 0), (0, 1)]]
        for time in range(3):
            self.assertEqual([kept(plan, field, 2) for plan in plans for field in fields], due)
            self.assertEqual([loss(plan, field, [(0, 4)]) for plan in plans for field in fields], [184, 232, 30, 54])
            self.assertEqual([len(within(plan, field, 40)) for plan in plans for field in fields], [3, 3, 1, 1])


if __name__ == "__main__":
    unittest.main()
