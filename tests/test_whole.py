"""What the document promises over the whole program [4] [6] [7], from texts to texts."""

import random
import unittest

from halvedpictures.desk import Desk
from halvedpictures.fields import Field
from halvedpictures.fieldtexts import field_text, read_field
from halvedpictures.halving import coarse, halved, put_back
from halvedpictures.hanging import share
from halvedpictures.leaving import apart, left_out
from halvedpictures.noughts import noughts
from halvedpictures.pictures import Picture
from halvedpictures.plans import Plan
from halvedpictures.readings import read_signs
from halvedpictures.rooms import kept, loss, with_kept, within
from halvedpictures.signs import signs
from halvedpictures.squares import copies, scaled, squares
from halvedpictures.summing import added, can_be_rests, rests
from halvedpictures.worst import greatest, worst
from tests.helper import shown, some_plans, some_rows, told_plans

MOST = 10 ** 5


def plans_and_pictures(seed, times, side):
    """Plans of all told sizes and ways and of some chance, each with a picture."""
    chance = random.Random(seed)
    for plan in told_plans() + list(some_plans(chance, times, side)):
        yield chance, plan, Field(some_rows(chance, plan.height(), plan.width(), chance.choice((1, 40, MOST))))


class WholeTest(unittest.TestCase):
    def test_a_text_goes_all_the_way_and_comes_back(self):
        for chance, plan, picture in plans_and_pictures(170, 100, 16):
            text = field_text(picture)
            row = signs(plan, halved(plan, read_field(text)))
            reading = read_signs(row)
            self.assertEqual(field_text(put_back(reading.plan(), reading.numbers())), text)
            self.assertEqual(signs(reading.plan(), reading.numbers()), row)
            self.assertTrue(reading.whole())
            self.assertEqual(set(reading.unread().flat()), {0})

    def test_cut_rows_are_put_back_within_the_worst_of_what_is_not_read(self):
        for chance, plan, picture in plans_and_pictures(171, 60, 9):
            row = signs(plan, halved(plan, picture))
            for time in range(3):
                reading = read_signs(row[:chance.randint(row.index(":") + 1, len(row))])
                back, bounds = put_back(plan, reading.numbers()), worst(plan, reading.unread())
                for place in picture.places():
                    self.assertLessEqual(abs(back.at(place) - picture.at(place)), bounds.at(place))

    def test_what_a_desk_reads_lies_within_what_it_tells(self):
        chance = random.Random(172)
        for plan in some_plans(chance, 40, 7):
            picture = Field(some_rows(chance, plan.height(), plan.width(), 50))
            row, desk = signs(plan, halved(plan, picture)), Desk()
            for cut in range(row.index(":") + 1, len(row) + 1, 5):
                told, bound = desk.say("read " + row[:cut]).split(" | ")
                self.assertLessEqual(apart(read_field(told), picture), int(bound))

    def test_small_numbers_left_out_are_seen_no_farther_than_told(self):
        for chance, plan, picture in plans_and_pictures(173, 60, 9):
            numbers, bound = halved(plan, picture), chance.choice((0, 1, 20, MOST))
            self.assertLessEqual(apart(put_back(plan, left_out(plan, numbers, bound)), picture), greatest(plan, bound))

    def test_shares_of_coarse_numbers(self):
        for chance, plan, picture in plans_and_pictures(174, 60, 9):
            numbers, word = halved(plan, picture), plan.rule().word()
            for step in range(plan.steps() + 1):
                corner = coarse(plan, numbers, step)
                place = chance.choice(corner.places())
                total = sum(picture.at(one) * many for one, many in share(plan, step, place))
                single = sum(2 if letter == "b" else 1 for letter in plan.way()[:step])
                if word == "sum":
                    self.assertEqual(corner.at(place), total)
                elif word in ("half", "lean"):
                    over = total - 2 ** single * corner.at(place)
                    self.assertTrue(0 <= 2 * over <= single * 2 ** single)

    def test_squares_and_losses_by_sum(self):
        for chance, plan, picture in plans_and_pictures(175, 60, 9):
            if plan.rule().word() != "sum":
                continue
            numbers = halved(plan, picture)
            counts = {place: copies(plan, place) for place in picture.places()[::40]}
            told = scaled(plan, numbers)
            power = 2 ** sum(2 if letter == "b" else 1 for letter in plan.way())
            self.assertTrue(all(told.at(place) == power * picture.at(place) for place in counts))
            many = chance.randint(0, len(numbers.flat()))
            places = kept(plan, numbers, many)
            lost = loss(plan, numbers, places)
            self.assertEqual(lost + squares(plan, with_kept(plan, numbers, places)), squares(plan, numbers))
            fewest = within(plan, numbers, lost)
            self.assertLessEqual(len(fewest), many)
            self.assertLessEqual(loss(plan, numbers, fewest), lost)
            if fewest:
                self.assertGreater(loss(plan, numbers, kept(plan, numbers, len(fewest) - 1)), lost)

    def test_two_pictures_summed(self):
        for chance, plan, picture in plans_and_pictures(176, 60, 12):
            one, other = [Field(some_rows(chance, plan.height(), plan.width(), MOST // 2)) for time in range(2)]
            parted = rests(plan, one, other)
            both = added(added(halved(plan, one), halved(plan, other)), parted)
            self.assertTrue(both.same(halved(plan, added(one, other))))
            self.assertTrue(can_be_rests(plan, parted))
            if plan.rule().word() == "sum":
                self.assertEqual(set(parted.flat()), {0})

    def test_flat_pictures(self):
        for chance, plan, picture in plans_and_pictures(177, 60, 12):
            step, word, top, left, height, width = plan.parts()[0]
            flat = Field([[picture.at((0, 0))] * plan.width()] * plan.height())
            self.assertEqual(noughts(plan, flat), plan.height() * plan.width() - height * width)

    def test_numbers_and_pictures_go_one_to_one_but_by_sum(self):
        for chance, plan, picture in plans_and_pictures(178, 60, 9):
            if plan.rule().word() != "sum":
                numbers = Field(some_rows(chance, plan.height(), plan.width(), 50))
                self.assertTrue(halved(plan, put_back(plan, numbers)).same(numbers))


class NothingInCommonTest(unittest.TestCase):
    def test_objects_made_alike_answer_alike_by_turns(self):
        chance = random.Random(179)
        for plan in some_plans(chance, 20, 6):
            rows = some_rows(chance, plan.height(), plan.width(), 9)
            one, other = Desk(), Picture(plan, Field(rows))
            way = plan.way() or "-"
            one.say(f"plan {plan.height()} {plan.width()} {plan.rule().word()} {way}")
            one.say("field " + field_text(Field(rows)))
            for time in range(5):
                (y, x), value = chance.choice(other.field().places()), chance.randint(-9, 9)
                before = shown(other)
                one.say(f"put {y} {x} {value}")
                self.assertEqual(shown(other), before)
                other.put((y, x), value)
                self.assertEqual(one.say("numbers"), field_text(other.numbers()))
                again = Plan(plan.height(), plan.width(), plan.rule().word(), plan.way())
                self.assertEqual(one.say("signs"), signs(again, halved(again, other.field())))


if __name__ == "__main__":
    unittest.main()
