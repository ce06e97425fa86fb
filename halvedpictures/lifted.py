"""The rules guess and lean, which guess a number from those beside it; and all rules by their words."""

from halvedpictures.errors import NoRule
from halvedpictures.rules import Halves, Sums, gaps_of


def near(numbers, at):
    """Tell the number at a place, or the nearest one where it is lacking."""
    # At a row's end the one beside it stands in the place of a lacking one, and that is the nearest.
    return numbers[min(max(at, 0), len(numbers) - 1)]


def woven(firsts, seconds):
    """Tell the row of the first and the second ones of its pairs; a last first one may be left over."""
    row = []
    for first, second in zip(firsts, seconds):
        row.extend([first, second])
    return row + firsts[len(seconds):]


def guesses(firsts, many):
    """Tell what the second ones of so many pairs are guessed to be from the first ones."""
    return [(firsts[at] + near(firsts, at + 1)) // 2 for at in range(many)]


def lifts(differences, many):
    """Tell by how much each of so many first ones is lifted to be a sum by the rule guess."""
    return [(near(differences, at - 1) + near(differences, at) + 2) // 4 for at in range(many)]


def leans(sums, many):
    """Tell what the gaps of so many pairs are guessed to be from the sums."""
    return [(near(sums, at - 1) - near(sums, at + 1) + 2) // 4 for at in range(many)]


class Guessed(Sums):
    """The rule guess: the second one of each pair is guessed from the numbers on both sides of it."""

    def word(self):
        """Tell the rule's word."""
        return "guess"

    def parted(self, row):
        """Halve what is known to be a row."""
        firsts, seconds = row[0::2], row[1::2]
        differences = [second - guess for second, guess in zip(seconds, guesses(firsts, len(seconds)))]
        sums = [first + lift for first, lift in zip(firsts, lifts(differences, len(firsts)))]
        return (sums, differences)

    def joined(self, sums, differences):
        """Put back a row from what is known to be its halves."""
        firsts = [total - lift for total, lift in zip(sums, lifts(differences, len(sums)))]
        seconds = [less + guess for less, guess in zip(differences, guesses(firsts, len(differences)))]
        return woven(firsts, seconds)


class Leaning(Halves):
    """The rule lean: the sums of the rule half, and the gaps are guessed from them."""

    def word(self):
        """Tell the rule's word."""
        return "lean"

    def parted(self, row):
        """Halve what is known to be a row."""
        sums, gaps = self.sums_of(row), gaps_of(row)
        return (sums, [gap - lean for gap, lean in zip(gaps, leans(sums, len(gaps)))])

    def joined(self, sums, differences):
        """Put back a row from what is known to be its halves."""
        gaps = [less + lean for less, lean in zip(differences, leans(sums, len(differences)))]
        return self.row_of(sums, gaps)


def all_rules():
    """Tell the rules in the order of their words."""
    return [Sums(), Halves(), Guessed(), Leaning()]


def rule_of(word):
    """Tell the rule of a word."""
    for rule in all_rules():
        if rule.word() == word:
            return rule
    raise NoRule(word)


def words():
    """Tell the words of the rules in their order."""
    return [rule.word() for rule in all_rules()]
