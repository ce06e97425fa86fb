"""Errors of sums and differences, carried back to the row that is put back from them."""

from halvedpictures.errors import NoHalves, NoRule
from halvedpictures.kinds import are_halves
from halvedpictures.lifted import near, woven


class SumCarrier:
    """Carries errors by the rule sum; the others stand under it and say otherwise what they do otherwise."""

    def word(self):
        """Tell the rule's word."""
        return "sum"

    def carried(self, sums, differences):
        """Tell the errors of a row by those of its sums and its differences."""
        if not are_halves(sums, differences) or min(sums + differences) < 0:
            raise NoHalves(sums, differences)
        return self.errors_of(sums, differences)

    def errors_of(self, sums, differences):
        """Carry what is known to be errors of halves."""
        gaps = self.gap_errors(sums, differences)
        errors = [self.error_of_pair(total, gap) for total, gap in zip(sums, gaps)]
        # Both of a pair may be as far away as its sum and its gap let them.
        return woven(errors + [self.error_of_lone(total) for total in sums[len(gaps):]], errors)

    def gap_errors(self, sums, differences):
        """Tell how far away the gap of each pair may be."""
        return differences

    def error_of_pair(self, total, gap):
        """Tell how far away both of a pair may be, by the errors of its sum and its gap."""
        return (total + gap + 1) // 2

    def error_of_lone(self, total):
        """Tell how far away what is left over may be, by the error of its sum."""
        return (total + 1) // 2


class HalfCarrier(SumCarrier):
    """Carries errors by the rule half."""

    def word(self):
        """Tell the rule's word."""
        return "half"

    def error_of_pair(self, total, gap):
        """Tell how far away both of a pair may be, by the errors of its sum and its gap."""
        return total + (gap + 1) // 2

    def error_of_lone(self, total):
        """Tell how far away what is left over may be, by the error of its sum."""
        return total


class GuessCarrier(SumCarrier):
    """Carries errors by the rule guess."""

    def word(self):
        """Tell the rule's word."""
        return "guess"

    def errors_of(self, sums, differences):
        """Carry what is known to be errors of halves."""
        firsts = [total + (near(differences, at - 1) + near(differences, at) + 3) // 4
                  for at, total in enumerate(sums)]
        seconds = [less + (firsts[at] + near(firsts, at + 1) + 1) // 2 for at, less in enumerate(differences)]
        return woven(firsts, seconds)


class LeanCarrier(HalfCarrier):
    """Carries errors by the rule lean."""

    def word(self):
        """Tell the rule's word."""
        return "lean"

    def gap_errors(self, sums, differences):
        """Tell how far away the gap of each pair may be."""
        return [less + (near(sums, at - 1) + near(sums, at + 1) + 3) // 4 for at, less in enumerate(differences)]


def carrier_of(word):
    """Tell the one that carries errors by the rule of a word."""
    for carrier in [SumCarrier(), HalfCarrier(), GuessCarrier(), LeanCarrier()]:
        if carrier.word() == word:
            return carrier
    raise NoRule(word)
