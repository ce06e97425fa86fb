"""Pictures that change, with their numbers, deed by deed."""

from halvedpictures.checks import MOST_VALUE, check_size
from halvedpictures.errors import NoDeed, NoNumber, NoPlace
from halvedpictures.halving import halved
from halvedpictures.kinds import is_whole
from halvedpictures.summing import summed


def changes_of(plan, before, behind):
    """Tell each place, in the plan's order, where one field of numbers became another."""
    return [(place, before.at(place), behind.at(place))
            for place in plan.order() if before.at(place) != behind.at(place)]


class Picture:
    """A picture of a plan that changes by deeds, the last of which may be undone."""

    def __init__(self, plan, field):
        self.halver = plan
        # The picture and its numbers as they were ahead of each deed that stands, and, last, as they are now.
        self.moments = [(field, halved(plan, field))]

    def plan(self):
        """Tell its plan."""
        return self.halver

    def field(self):
        """Tell the picture as it is now."""
        return self.moments[-1][0]

    def numbers(self):
        """Tell the numbers of the picture as it is now."""
        return self.moments[-1][1]

    def deeds(self):
        """Tell how many deeds stand."""
        return len(self.moments) - 1

    def put(self, place, value):
        """Put a value at a place, and tell the changes of the numbers."""
        if not self.field().is_place(place):
            raise NoPlace(place)
        if not is_whole(value, -MOST_VALUE, MOST_VALUE):
            raise NoNumber(value)
        return self.become(self.field().with_number(place, value))

    def add(self, field):
        """Add a field's numbers to the values, and tell the changes of the numbers."""
        check_size(self.halver, field)
        return self.become(summed(self.field(), field, MOST_VALUE))

    def become(self, field):
        """Do the deed that makes this field the picture, and tell the changes of the numbers."""
        before = self.numbers()
        self.moments.append((field, halved(self.halver, field)))
        return changes_of(self.halver, before, self.numbers())

    def undo(self):
        """Undo the last deed that stands, and tell the changes of the numbers."""
        if self.deeds() == 0:
            raise NoDeed("undo")
        before = self.numbers()
        self.moments.pop()
        return changes_of(self.halver, before, self.numbers())

    def copied(self):
        """Tell another Picture like this one, which goes its own way."""
        other = Picture(self.halver, self.field())
        other.moments = list(self.moments)
        return other
