"""The rules sum and half: a row halved pair by pair, and put back."""

from halvedpictures.errors import NoHalves, NoRow
from halvedpictures.kinds import are_halves, is_row


def pairs_of(row):
    """Tell the pairs of a row; what is left over is in none."""
    return list(zip(row[0::2], row[1::2]))


def gaps_of(row):
    """Tell of each pair the first one less the second one."""
    return [first - second for first, second in pairs_of(row)]


class Sums:
    """The rule sum; the other rules stand under it and say otherwise what they do otherwise."""

    def word(self):
        """Tell the rule's word."""
        return "sum"

    def halves(self, row):
        """Tell the sums and the differences of a row."""
        if not is_row(row, 2):
            raise NoRow(row)
        return self.parted(row)

    def back(self, sums, differences):
        """Tell the row that is put back from sums and differences."""
        if not are_halves(sums, differences):
            raise NoHalves(sums, differences)
        return self.joined(sums, differences)

    def parted(self, row):
        """Halve what is known to be a row."""
        return (self.sums_of(row), gaps_of(row))

    def joined(self, sums, differences):
        """Put back a row from what is known to be its halves."""
        return self.row_of(sums, differences)

    def sums_of(self, row):
        """Tell the sum of each pair, and of what is left over."""
        sums = [self.sum_of_pair(first, second) for first, second in pairs_of(row)]
        if len(row) > 2 * len(sums):
            sums.append(self.sum_of_lone(row[-1]))
        return sums

    def row_of(self, sums, gaps):
        """Tell the row with these sums whose pairs have these gaps."""
        row = []
        for total, gap in zip(sums, gaps):
            row.extend(self.pair_of(total, gap))
        if len(sums) > len(gaps):
            row.append(self.lone_of(sums[-1]))
        return row

    def sum_of_pair(self, first, second):
        """Tell the sum of a pair."""
        return first + second

    def sum_of_lone(self, number):
        """Tell the sum of what is left over."""
        return 2 * number

    def pair_of(self, total, gap):
        """Tell the pair with this sum and this gap."""
        first = (total + gap) // 2
        return [first, total - first]

    def lone_of(self, total):
        """Tell what is left over by its sum."""
        return total // 2


class Halves(Sums):
    """The rule half: the sums are halved, so they are no greater than the numbers."""

    def word(self):
        """Tell the rule's word."""
        return "half"

    def sum_of_pair(self, first, second):
        """Tell the sum of a pair."""
        return (first + second) // 2

    def sum_of_lone(self, number):
        """Tell the sum of what is left over."""
        return number

    def pair_of(self, total, gap):
        """Tell the pair with this sum and this gap."""
        first = total + (gap + 1) // 2
        return [first, first - gap]

    def lone_of(self, total):
        """Tell what is left over by its sum."""
        return total
