"""The rules by their words [28], and how they stand under one another."""

import unittest

from halvedpictures.errors import NoRule
from halvedpictures.lifted import Guessed, Leaning, rule_of, words
from halvedpictures.rules import Halves, Sums
from tests.helper import assert_refused, wrong_things

CLASSES = {"sum": Sums, "half": Halves, "guess": Guessed, "lean": Leaning}


class WordsTest(unittest.TestCase):
    def test_the_words_in_their_order(self):
        self.assertEqual(words(), ["sum", "half", "guess", "lean"])

    def test_the_words_are_a_new_list_each_time(self):
        words().append("more")
        words()[0] = "less"
        self.assertEqual(words(), ["sum", "half", "guess", "lean"])
        self.assertIsNot(words(), words())

    def test_each_rule_by_its_word(self):
        for word, rule in CLASSES.items():
            self.assertIs(rule_of(word).__class__, rule)
            self.assertEqual(rule_of(word).word(), word)
            self.assertEqual(rule().word(), word)

    def test_how_the_rules_stand_under_one_another(self):
        self.assertEqual(Sums.__bases__, (object,))
        self.assertEqual(Halves.__bases__, (Sums,))
        self.assertEqual(Guessed.__bases__, (Sums,))
        self.assertEqual(Leaning.__bases__, (Halves,))

    def test_what_is_no_word_is_refused(self):
        things = wrong_things() + ["SUM", "sum ", " sum", "sums", "su", "sum half", "halve", ["sum"], ("sum",),
                                   {"sum": 1}, "guess\n", "leaning"]
        refused = 0
        for thing in things:
            if isinstance(thing, str) and thing in CLASSES:
                continue
            assert_refused(self, NoRule, {"found": thing}, rule_of, thing)
            refused += 1
        self.assertGreater(refused, 60)

    def test_rules_have_nothing_in_common_that_changes(self):
        one, other = rule_of("guess"), rule_of("guess")
        self.assertEqual(one.halves([1, 5, 2]), other.halves([1, 5, 2]))
        self.assertEqual(vars(one), {})


if __name__ == "__main__":
    unittest.main()
